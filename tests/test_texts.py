import random
import unittest

from asking import Asking, refusal_of
from cases import drawing_with, long_gaps, random_jobs
from gaugewright.errors import NoText
from gaugewright.texts import read, shown
from samples import GREATEST, TOO_LONG, nested_things, plain_things

JOB = ((("pin", -3, 0), ("bore", 10, 12)), ((((0, -1), (1, 2)), -5, 7), (((1, 1),), 0, 0)))
ROWS = ["part pin -3 0", "part bore 10 12", "gap -5 7 -1 pin 2 bore", "gap 0 0 1 bore"]
SIXTY = "9" * 60
SIXTY_ONE = "1" + "0" * 60
EIGHT_ROWS = [f"part {name} 0 1" for name in "abcdefgh"]
SIGNS = "".join(chr(code) for code in range(ord(" "), ord("~") + 1) if chr(code) != "%")


class Shown(Asking):
    def test_by_hand(self):
        self.assertEqual(shown(JOB), "\n".join(ROWS))
        self.assertEqual(shown(((("a", 0, 0),), ((((0, 3),), 0, 1),))), "part a 0 0\ngap 0 1 3 a")

    def test_the_terms_stand_in_their_order(self):
        drawing = drawing_with([(0, 1)] * 8)
        gap = (tuple((part, (-3, -2, -1, 1, 2, 3, 1, 1)[part]) for part in range(8)), -1, 1)
        self.assertEqual(shown((drawing, (gap,))).split("\n"),
                         EIGHT_ROWS + ["gap -1 1 -3 a -2 b -1 c 1 d 2 e 3 f 1 g 1 h"])

    def test_long_numbers(self):
        job = ((("abcdefgh", -GREATEST, GREATEST),), ((((0, 1),), -GREATEST, GREATEST),))
        self.assertEqual(shown(job), f"part abcdefgh -{SIXTY} {SIXTY}\ngap -{SIXTY} {SIXTY} 1 abcdefgh")

    def test_it_is_read_to_the_same_job(self):
        for job in random_jobs(131, 300):
            self.assertEqual(read(shown(job)), job)
        for drawing, gap in long_gaps(132, 100):
            self.assertEqual(read(shown((drawing, (gap,)))), (drawing, (gap,)))

    def test_the_greatest_job(self):
        drawing = tuple(("abcdefg" + name, -GREATEST, GREATEST) for name in "abcdefgh")
        gap = (tuple((part, -3) for part in range(8)), -GREATEST, -GREATEST)
        text = self.at_once(shown, (drawing, (gap,) * 6))
        self.assertLess(len(text), 3000)
        self.assertEqual(self.at_once(read, text), (drawing, (gap,) * 6))


class Read(Asking):
    def assert_no_text(self, row, rows):
        self.assert_refused(NoText, {"row": row}, read, "\n".join(rows))

    def assert_wrong_row(self, place, row):
        """Wrong in its place, with all else as it was, and with other rows behind it left out or wrong as well."""
        self.assert_no_text(place + 1, ROWS[:place] + [row] + ROWS[place + 1:])
        self.assert_no_text(place + 1, ROWS[:place] + [row])
        self.assert_no_text(place + 1, ROWS[:place] + [row, "none", ""])

    def test_by_hand(self):
        self.assertEqual(read("\n".join(ROWS)), JOB)
        told = read("part a 0 0\ngap 0 1 3 a")
        self.assertEqual(told, ((("a", 0, 0),), ((((0, 3),), 0, 1),)))
        self.assertEqual([type(part) for part in told[0] + told[1] + told[1][0][0]], [tuple] * 3)

    def test_what_is_no_text(self):
        for thing in [thing for thing in plain_things() if not isinstance(thing, str)] + nested_things():
            self.assert_refused(NoText, {"row": 0}, read, thing)
        self.assert_refused(NoText, {"row": 0}, read, ["part a 0 0\ngap 0 1 3 a"])
        self.assert_refused(NoText, {"row": 0}, read, ("part a 0 0", "gap 0 1 3 a"))
        self.assert_unchanged(lambda thing: vars(refusal_of(self, read, thing)), [["part a 0 0"], {"a": [1]}])

    def test_whatever_text(self):
        for text in [text for text in plain_things() if isinstance(text, str)]:
            self.assert_refused(NoText, {"row": 1}, read, text)

    def test_a_part_not_so_written(self):
        for row in [
            "", " ", "part", "part pin", "part pin -3", "part pin -3 0 0", " part pin -3 0", "part pin -3 0 ",
            "part  pin -3 0", "part pin  -3 0", "part pin -3  0", "Part pin -3 0", "part Pin -3 0", "part pi1 -3 0",
            "part -3 0 pin", "pin -3 0", "parts pin -3 0", "part pin\t-3 0", "part,pin,-3,0", "part pin -3 0;",
            "part pin_ -3 0", "part abcdefghi -3 0", "part  -3 0", "part pin -3 x", "part pin - 0", "part pin -3 -",
            "part pin --3 0", "part pin +3 4", "part pin 3. 4", "part pin 1e2 200", "part pin 0x1 9", "part pin 1_0 20",
            "part pin (3) 4", "part pin 03 4", "part pin -03 0", "part pin 00 4", "part pin -0 4", "part pin -3 -0",
            "part pin -3 00", "part pin -3 +0", "PART PIN -3 0", "part pin 3- 4", "part 1 -3 0", "part 'pin' -3 0",
        ]:
            self.assert_wrong_row(0, row)

    def test_a_gap_not_so_written(self):
        for row in [
            "", " ", "gap", "gap 0", "gap 0 0", "gap 0 0 1", "gap 0 0 bore", "gap 0 0 1 bore 1", "gap 0 0 1 bore bore",
            "gap 0 0 bore 1", " gap 0 0 1 bore", "gap 0 0 1 bore ", "gap  0 0 1 bore", "gap 0 0  1 bore",
            "gap 0 0 1  bore", "Gap 0 0 1 bore", "gap 00 0 1 bore", "gap -0 0 1 bore", "gap 0 -0 1 bore",
            "gap 0 0 +1 bore", "gap 0 0 01 bore", "gap 0 0 -01 bore", "gap 0 0 - bore", "gap 0 0 1 Bore",
            "gap 0 0 1 bor3", "gap x 0 1 bore", "gap 0 x 1 bore", "gap 0 0 x bore", "gap 0 0 1*bore", "gap 0 0 1bore",
            "gap pin 0 0 1 bore", "gaps 0 0 1 bore", "0 0 1 bore", "gap 0 0 1 bore;", "gap 0 0 1 bore gap 0 0",
            "gap 0 0 1 abcdefghi", "gap 0 0 -0 bore",
        ]:
            self.assert_wrong_row(2, row)
            self.assert_wrong_row(3, row)

    def test_a_part_behind_a_gap(self):
        self.assert_no_text(4, ROWS[:3] + ["part nut 0 1", ROWS[3]])
        self.assert_no_text(4, ROWS[:3] + ["part nut 0 1"])
        self.assert_no_text(2, [ROWS[0], "gap 0 0 1 bore", ROWS[1]])

    def test_a_part_with_the_name_of_one_ahead(self):
        self.assert_wrong_row(1, "part pin 10 12")
        self.assert_wrong_row(1, "part pin -3 0")
        self.assert_no_text(3, ROWS[:2] + ["part pin 0 1"] + ROWS[2:])

    def test_a_low_above_its_high(self):
        self.assert_wrong_row(0, "part pin 1 0")
        self.assert_wrong_row(1, "part bore -10 -12")
        self.assert_wrong_row(2, "gap 8 7 -1 pin 2 bore")
        self.assert_wrong_row(3, "gap 0 -1 1 bore")
        self.assertEqual(read("part a 7 7\ngap -7 -7 1 a"), ((("a", 7, 7),), ((((0, 1),), -7, -7),)))

    def test_a_gap_with_a_name_that_no_part_has(self):
        for row in ["gap 0 0 1 nut", "gap 0 0 1 pin 1 nut", "gap 0 0 1 a 1 pin", "gap 0 0 1 bor", "gap 0 0 1 part"]:
            self.assert_wrong_row(2, row)
        self.assert_no_text(1, ["gap 0 0 1 pin"])
        self.assert_no_text(1, ["gap 0 0 1 pin"] + ROWS)

    def test_terms_not_rising_by_parts(self):
        for row in ["gap 0 0 1 bore 1 pin", "gap 0 0 1 pin 1 pin", "gap 0 0 1 bore 2 bore",
                    "gap 0 0 1 pin 1 bore 1 pin"]:
            self.assert_wrong_row(2, row)
        names = " ".join(f"1 {name}" for name in "abcdefgh")
        self.assertEqual(len(read("\n".join(EIGHT_ROWS + [f"gap 0 1 {names}"]))[1][0][0]), 8)
        self.assert_no_text(9, EIGHT_ROWS + [f"gap 0 1 {names} 1 h"])

    def test_times(self):
        for times in (-3, -2, -1, 1, 2, 3):
            self.assertEqual(read(f"part a 0 1\ngap 0 1 {times} a")[1], ((((0, times),), 0, 1),))
        for times in (0, 4, -4, 10, -33, GREATEST, TOO_LONG):
            self.assert_wrong_row(2, f"gap 0 0 {times} pin")
            self.assert_wrong_row(3, f"gap 0 0 1 pin {times} bore")

    def test_sixty_figures_and_sixty_one(self):
        for sign in ("", "-"):
            number = int(sign + SIXTY)
            self.assertEqual(read(f"part a -{SIXTY} {SIXTY}\ngap {sign}{SIXTY} {sign}{SIXTY} 1 a")[1][0][1:],
                             (number, number))
            self.assertEqual(read(f"part a {sign}{SIXTY} {sign}{SIXTY}\ngap 0 0 1 a")[0], (("a", number, number),))
        for row in [f"part pin -{SIXTY_ONE} 0", f"part pin 0 {SIXTY_ONE}", f"part pin {SIXTY_ONE} {SIXTY_ONE}",
                    f"part pin -{SIXTY_ONE} -{SIXTY_ONE}", "part pin 0 " + "9" * 61, "part pin 0 " + "9" * 1000]:
            self.assert_wrong_row(0, row)
        for row in [f"gap -{SIXTY_ONE} 0 1 pin", f"gap 0 {SIXTY_ONE} 1 pin", f"gap 0 0 {SIXTY_ONE} pin",
                    f"gap {SIXTY_ONE} {SIXTY_ONE} 1 pin", "gap 0 0 " + "0" * 60 + "1 pin"]:
            self.assert_wrong_row(2, row)

    def test_eight_parts_and_nine(self):
        self.assertEqual(len(read("\n".join(EIGHT_ROWS + ["gap 0 1 1 h"]))[0]), 8)
        self.assert_no_text(9, EIGHT_ROWS + ["part i 0 1", "gap 0 1 1 h"])
        self.assert_no_text(9, EIGHT_ROWS + ["part i 0 1"])

    def test_six_gaps_and_seven(self):
        self.assertEqual(len(read("\n".join(ROWS[:2] + ["gap 0 0 1 bore"] * 6))[1]), 6)
        self.assert_no_text(9, ROWS[:2] + ["gap 0 0 1 bore"] * 7)
        self.assert_no_text(9, ROWS[:2] + ["gap 0 0 1 bore"] * 9)

    def test_a_gap_lacking_at_the_end(self):
        self.assert_no_text(2, ROWS[:1])
        self.assert_no_text(3, ROWS[:2])
        self.assert_no_text(9, EIGHT_ROWS)

    def test_line_feeds_stand_between_rows_alone(self):
        self.assert_no_text(1, [""])
        self.assert_no_text(1, [""] + ROWS)
        self.assert_no_text(5, ROWS + [""])
        self.assert_no_text(3, ROWS[:2] + [""] + ROWS[2:])
        self.assert_no_text(3, ROWS[:2] + [""])
        self.assert_refused(NoText, {"row": 1}, read, " ; ".join(ROWS))
        self.assert_refused(NoText, {"row": 1}, read, "\r\n".join(ROWS))

    def test_the_first_row_that_is_wrong(self):
        self.assert_no_text(1, ["part pin 1 0", "none", "gap 0 0 9 pin"])
        self.assert_no_text(2, ["part pin 0 1", "part pin 0 1", "gap 0 0 9 pin"])
        self.assert_no_text(3, ["part pin 0 1", "part bore 0 1", "gap 0 0 9 pin", "gap 0 0 9 pin"])

    def test_each_single_sign_otherwise(self):
        # What is read must be shown as it was written; else a row is told, and that of the sign at the earliest.
        source = random.Random(133)
        text = "\n".join(ROWS)
        refused = 0
        for place in range(len(text)):
            for sign in source.sample(SIGNS + "\n", 12) + [""]:
                wrong = text[:place] + sign + text[place + 1:]
                try:
                    self.assertEqual(shown(read(wrong)), wrong)
                except NoText as told:
                    self.assertGreaterEqual(told.row, text[:place].count("\n") + 1)
                    refused += 1
        self.assertGreater(refused, 500)

    def test_three_thousand_signs(self):
        for text, row in [
            ("a" * 3000, 1), ("\n" * 3000, 1), (" " * 3000, 1), ("-" * 3000, 1), ("part a 0 " + "1" * 2991, 1),
            ("part a 0 1\n" + "gap 0 1 1 a\n" * 249 + "~", 8), ("part a 0 1\ngap 0 1" + " 1 a" * 745, 2),
            ("part a 0 1\ngap 0 1 1 a\n" + " " * 2977, 3), ("gap " * 750, 1), ((SIGNS * 40)[:3000], 1),
        ]:
            self.assertLessEqual(len(text), 3000)
            self.assert_refused(NoText, {"row": row}, self.at_once, read, text)

    def test_the_same_question_has_the_same_answer(self):
        self.assert_same_again([
            lambda: read("\n".join(ROWS)), lambda: shown(JOB), lambda: vars(refusal_of(self, read, "part")),
            lambda: read("part a 0 0\ngap 0 1 3 a"), lambda: vars(refusal_of(self, read, None))])


if __name__ == "__main__":
    unittest.main()
