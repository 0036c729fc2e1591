import unittest

from gaugewright import errors
from gaugewright.errors import (
    GaugeError, NoDrawing, NoGap, NoOffer, NoPart, NoRow, NoSet, NoSpan, NoText, TooGreat, Unlike,
)

WITHOUT_FIELDS = (NoSpan, NoPart, NoSet, NoRow, Unlike)
WITH_NUMBER = (NoDrawing, NoGap, NoOffer)
ALL = WITHOUT_FIELDS + WITH_NUMBER + (NoText, TooGreat)


class Classes(unittest.TestCase):
    def test_gauge_error_stands_under_value_error(self):
        self.assertEqual(GaugeError.__bases__, (ValueError,))

    def test_each_refusal_stands_straight_under_gauge_error(self):
        for refusal in ALL:
            with self.subTest(refusal=refusal.__name__):
                self.assertEqual(refusal.__bases__, (GaugeError,))

    def test_there_is_no_other_refusal(self):
        found = {thing for thing in vars(errors).values() if isinstance(thing, type)}
        self.assertEqual(found, set(ALL) | {GaugeError})

    def test_a_refusal_is_taken_by_its_own_name_and_by_those_above(self):
        for above in (NoPart, GaugeError, ValueError):
            with self.assertRaises(above):
                raise NoPart()

    def test_no_refusal_is_taken_for_another(self):
        for refusal in ALL:
            for other in ALL:
                if refusal is not other:
                    self.assertFalse(issubclass(refusal, other))


class Fields(unittest.TestCase):
    def test_refusals_without_fields_are_made_of_nothing(self):
        for refusal in WITHOUT_FIELDS:
            with self.subTest(refusal=refusal.__name__):
                self.assertIs(type(refusal()), refusal)
                self.assertEqual(vars(refusal()), {})

    def test_number(self):
        for refusal in WITH_NUMBER:
            with self.subTest(refusal=refusal.__name__):
                self.assertEqual(vars(refusal(3)), {"number": 3})
                self.assertEqual(refusal(number=0).number, 0)
                self.assertRaises(TypeError, refusal)

    def test_row(self):
        self.assertEqual(vars(NoText(4)), {"row": 4})
        self.assertEqual(NoText(row=0).row, 0)
        self.assertRaises(TypeError, NoText)

    def test_many_and_most(self):
        self.assertEqual(vars(TooGreat(301, 300)), {"many": 301, "most": 300})
        refused = TooGreat(most=10, many=11)
        self.assertEqual((refused.many, refused.most), (11, 10))
        self.assertRaises(TypeError, TooGreat, 1)

    def test_fields_belong_to_each_object(self):
        one = NoDrawing(1)
        other = NoDrawing(2)
        self.assertEqual((one.number, other.number), (1, 2))
        self.assertFalse(hasattr(NoDrawing, "number"))
        many = 10 ** 480
        self.assertEqual(TooGreat(many, 300).many, many)


if __name__ == "__main__":
    unittest.main()
