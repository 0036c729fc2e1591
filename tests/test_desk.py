import random
import unittest

from asking import Asking
from gaugewright.boxes import matched
from gaugewright.cheapest import cheapest
from gaugewright.counter import counter, fitting
from gaugewright.counts import kept_count, share
from gaugewright.cuts import core
from gaugewright.desk import Desk
from gaugewright.errors import GaugeError, NoDrawing, NoGap, NoOffer, NoPart, NoRow, TooGreat, Unlike
from gaugewright.measure import fewest
from gaugewright.offers import offers_of, price_of
from gaugewright.reach import reach, verdict
from gaugewright.texts import read, shown
from samples import GREATEST, nested_things, plain_things

SIXTY = "9" * 60
SIXTY_ONE = "1" + "0" * 60
PAIR = ["part pin 3 5", "part bore -2 1", "gap 5 9 2 pin -2 bore"]
QUESTIONS = ["reach 0", "kept 0", "fewest 0", "match 0", "reach 1", "match 1", "counter", "fitting", "core", "cheapest",
             "job"]
JOB_QUESTIONS = ["counter", "fitting", "core", "cheapest", "job"]
GAP_QUESTIONS = ["reach", "kept", "fewest", "match"]


def desk_of(rows):
    desk = Desk()
    for row in rows:
        desk.say(row)
    return desk


def heard(desk, row):
    """What a desk answers, or how it refuses."""
    try:
        return desk.say(row)
    except GaugeError as refused:
        return (type(refused).__name__, vars(refused))


def all_heard(desk):
    return [heard(desk, question) for question in QUESTIONS]


class Telling(Asking):
    def assert_told(self, rows, **answers):
        desk = desk_of(rows)
        for question, answer in answers.items():
            self.assertEqual(desk.say(question.replace("_", " ")), answer, question)

    def assert_no(self, kind, fields, rows, row):
        """Refused, and nothing changed by it."""
        desk = desk_of(rows)
        ahead = all_heard(desk)
        self.assert_refused(kind, fields, desk.say, row)
        self.assertEqual(all_heard(desk), ahead)
        self.assertEqual(all_heard(desk), all_heard(desk_of(rows)))
        self.assert_refused(kind, fields, desk.say, row)


class Deeds(Telling):
    def test_each_is_answered_ok(self):
        desk = Desk()
        for row in PAIR + ["offer pin 3 4 2", "piece pin 4", "piece bore 0", "back", "back", "back", "back"]:
            self.assertEqual(desk.say(row), "ok")

    def test_parts(self):
        rows = [f"part {name} {low} {low + 1}" for low, name in enumerate("abcdefgh")]
        self.assert_told(rows + ["gap 0 9 1 h"], job=" ; ".join(rows) + " ; gap 0 9 1 h", reach_0="7 8 always",
                         cheapest="0 0 0 0 0 0 0 0 0")
        self.assert_told([f"part abcdefgh -{SIXTY} {SIXTY}", "gap 0 0 3 abcdefgh"],
                         reach_0=f"{-3 * GREATEST} {3 * GREATEST} sometimes")

    def test_no_part(self):
        self.assert_no(NoDrawing, {"number": 0}, [], "part pin 1 0")
        self.assert_no(NoDrawing, {"number": 2}, PAIR, "part nut 1 0")
        self.assert_no(NoDrawing, {"number": 2}, PAIR, "part nut -1 -2")
        self.assert_no(NoDrawing, {"number": 2}, PAIR, "part pin 3 5")
        self.assert_no(NoDrawing, {"number": 2}, PAIR, "part bore 0 0")
        eight = [f"part {name} 0 1" for name in "abcdefgh"]
        for row in ["part i 0 1", "part a 0 1", "part i 1 0"]:
            self.assert_no(NoDrawing, {"number": 8}, eight + ["gap 0 1 1 a"], row)
        self.assert_told(eight[:7] + ["part h 1 1", "gap 0 1 1 h"], reach_0="1 1 always")

    def test_a_part_behind_a_gap(self):
        self.assert_told(PAIR + ["part nut 0 0", "gap 0 0 1 nut"],
                         job="part pin 3 5 ; part bore -2 1 ; part nut 0 0 ; gap 5 9 2 pin -2 bore ; gap 0 0 1 nut",
                         reach_0="4 14 sometimes", reach_1="0 0 always", fitting="3 -1 0")

    def test_no_gap(self):
        for row in ["gap 0 1 1 nut", "gap 0 1 1 pin 1 nut", "gap 0 1 1 nut 1 pin", "gap 1 0 1 nut", "gap 0 1 9 nut"]:
            self.assert_no(NoPart, {}, PAIR, row)
        self.assert_no(NoPart, {}, [], "gap 0 1 1 pin")
        for row in [
            "gap 1 0 1 pin", "gap 0 1 0 pin", "gap 0 1 4 pin", "gap 0 1 -4 pin", "gap 0 1 1 bore 1 pin",
            "gap 0 1 1 pin 1 pin", f"gap 0 1 {SIXTY} pin", "gap 0 1 1 pin 0 bore", "gap 0 1 " + " ".join(["1 pin"] * 9),
        ]:
            self.assert_no(NoGap, {"number": 1}, PAIR, row)
            self.assert_no(NoGap, {"number": 0}, PAIR[:2], row)

    def test_six_gaps_and_seven(self):
        rows = PAIR[:2] + ["gap 0 9 1 pin"] * 6
        self.assert_told(rows, job=" ; ".join(rows), reach_5="3 5 always")
        self.assert_no(NoGap, {"number": 6}, rows, "gap 0 9 1 pin")
        self.assert_no(NoGap, {"number": 6}, rows, "gap 9 0 1 pin")
        self.assert_no(NoPart, {}, rows, "gap 0 9 1 nut")

    def test_offers(self):
        rows = PAIR[:2] + ["gap 6 12 2 pin -2 bore", "offer pin 3 4 2", "offer bore -2 0 3", "offer bore -1 0 4"]
        self.assert_told(rows, cheapest="4 0 2")
        self.assert_told(rows[:5], cheapest="5 1 1")
        self.assert_told(rows[:4], cheapest="none")
        # A part's offers are its own, however they came in between.
        self.assert_told(rows[:3] + [rows[4], rows[3], rows[5]], cheapest="4 0 2")

    def test_no_offer(self):
        self.assert_no(NoPart, {}, PAIR, "offer nut 0 1 2")
        self.assert_no(NoPart, {}, PAIR, "offer nut 1 0 -2")
        self.assert_no(NoPart, {}, [], "offer pin 0 1 2")
        for row in ["offer pin 3 5 2", "offer pin 2 4 2", "offer pin 4 6 2", "offer pin 4 3 2", "offer pin 3 4 0",
                    "offer pin 3 4 -1"]:
            self.assert_no(NoOffer, {"number": 0}, PAIR, row)
        for row in ["offer bore -2 1 9", "offer bore -2 0 0", "offer bore 5 6 9"]:
            self.assert_no(NoOffer, {"number": 1}, PAIR, row)
        for row in ["offer pin 3 4 9", "offer pin 3 5 9", "offer pin 5 5 9", "offer pin 3 3 2", "offer pin 3 3 1"]:
            self.assert_no(NoOffer, {"number": 0}, PAIR + ["offer pin 3 4 2"], row)

    def test_four_offers_and_five(self):
        rows = ["part a 0 9", "gap 0 6 1 a", "offer a 0 8 1", "offer a 0 7 2", "offer a 0 6 3"]
        self.assert_told(rows, cheapest="3 3")
        self.assert_no(NoOffer, {"number": 0}, rows, "offer a 0 5 4")

    def test_pieces(self):
        rows = ["part pin 0 9", "part bore 0 9", "gap 0 1 1 pin -1 bore", "piece pin 5", "piece bore 4", "piece pin 4",
                "piece bore 5", "piece bore 4"]
        self.assert_told(rows, match_0="0-0 1-2")
        self.assert_told(rows[:7], match_0="0-1 1-0")
        self.assert_told(rows[:5], match_0="0-0")
        self.assert_told(rows[:4], match_0="none")
        # Pieces need not be of the part's span.
        self.assert_told(rows[:3] + [f"piece pin {SIXTY}", f"piece bore {SIXTY}"], match_0="0-0")

    def test_no_piece(self):
        self.assert_no(NoPart, {}, PAIR, "piece nut 5")
        self.assert_no(NoPart, {}, [], "piece pin 5")

    def test_ten_pieces_and_eleven(self):
        rows = ["part pin 0 9", "part bore 0 9", "gap 0 0 1 pin -1 bore"] + ["piece pin 7", "piece bore 7"] * 10
        self.assert_told(rows, match_0=" ".join(f"{place}-{place}" for place in range(10)))
        self.assert_no(TooGreat, {"many": 11, "most": 10}, rows, "piece pin 7")
        self.assert_no(TooGreat, {"many": 11, "most": 10}, rows, "piece bore 7")
        self.assert_no(NoPart, {}, rows, "piece nut 7")


class Back(Telling):
    def test_behind_each_deed(self):
        rows = PAIR + ["offer pin 3 4 2", "piece pin 4", "piece bore 0", "gap 0 9 1 pin", "part nut 0 1"]
        for many in range(len(rows)):
            desk = desk_of(rows[:many])
            ahead = all_heard(desk)
            self.assertEqual(desk.say(rows[many]), "ok")
            self.assertEqual(desk.say("back"), "ok")
            self.assertEqual(all_heard(desk), ahead)
            # It may be told once more, and all is as if it had been told but once.
            for row in rows[many:]:
                self.assertEqual(desk.say(row), "ok")
            self.assertEqual(all_heard(desk), all_heard(desk_of(rows)))

    def test_one_behind_another(self):
        rows = PAIR + ["offer pin 3 4 2", "piece pin 4"]
        desk = desk_of(rows)
        for many in range(len(rows) - 1, -1, -1):
            self.assertEqual(desk.say("back"), "ok")
            self.assertEqual(all_heard(desk), all_heard(desk_of(rows[:many])))
        self.assert_refused(NoRow, {}, desk.say, "back")

    def test_when_nothing_stands(self):
        desk = Desk()
        self.assert_refused(NoRow, {}, desk.say, "back")
        desk.say(PAIR[0])
        desk.say("back")
        self.assert_refused(NoRow, {}, desk.say, "back")
        self.assert_refused(NoRow, {}, desk.say, "back")
        for row in PAIR:
            desk.say(row)
        self.assertEqual(desk.say("reach 0"), "4 14 sometimes")

    def test_questions_and_refused_rows_are_not_undone(self):
        desk = desk_of(PAIR + ["gap 0 9 1 pin"])
        for row in ["reach 0", "part pin 0 1", "none", "counter", "piece nut 5"]:
            heard(desk, row)
        desk.say("back")
        self.assertEqual(all_heard(desk), all_heard(desk_of(PAIR)))

    def test_an_undone_part_frees_its_name(self):
        desk = desk_of(["part pin 3 5", "back", "part pin 0 1", "gap 0 1 1 pin"])
        self.assertEqual(desk.say("reach 0"), "0 1 always")
        self.assertEqual(desk.say("cheapest"), "0 0")


class Questions(Telling):
    def test_reach(self):
        self.assert_told(PAIR + ["gap 4 14 2 pin -2 bore", "gap 7 7 2 pin -2 bore"], reach_0="4 14 sometimes",
                         reach_1="4 14 always", reach_2="4 14 never")

    def test_kept(self):
        self.assert_told(PAIR + ["gap 4 14 2 pin -2 bore", "gap 7 7 2 pin -2 bore"], kept_0="5 5/12", kept_1="12 1/1",
                         kept_2="0 0/1")

    def test_fewest(self):
        self.assert_told(PAIR + ["gap 4 14 2 pin -2 bore", "gap 0 0 1 bore"], fewest_0="0 1", fewest_1="none",
                         fewest_2="1")

    def test_counter(self):
        self.assert_told(PAIR, counter="0 3 -2")
        self.assert_told(PAIR[:2] + ["gap 3 5 1 pin", "gap -2 0 1 bore"], counter="1 3 1")
        self.assert_told(PAIR[:2] + ["gap 3 5 1 pin"], counter="none")

    def test_fitting(self):
        self.assert_told(PAIR, fitting="3 -1")
        self.assert_told(PAIR[:2] + ["gap 0 0 1 pin"], fitting="none")

    def test_core(self):
        self.assert_told(PAIR, core="none")
        self.assert_told(PAIR + ["gap 5 5 1 pin", "gap -2 -1 1 bore"], core="0 1 2")
        self.assert_told(PAIR + ["gap 0 0 1 pin"], core="1")

    def test_cheapest(self):
        self.assert_told(PAIR, cheapest="none")
        self.assert_told(PAIR[:2] + ["gap 3 5 1 pin"], cheapest="0 0 0")

    def test_match_takes_the_boxes_of_the_gaps_parts(self):
        rows = ["part a 0 9", "part b 0 9", "part c 0 9", "gap 1 1 2 a -3 c", "gap 1 1 -3 b 2 c", "piece a 5",
                "piece c 3", "piece b 1", "piece c 2", "piece b 3"]
        self.assert_told(rows, match_0="0-0", match_1="0-1")
        self.assert_told(rows + ["piece c 5", "piece c 5"], match_1="0-1 1-2")

    def test_match_of_another_number_of_terms(self):
        rows = ["part a 0 9", "part b 0 9", "part c 0 9", "gap 1 1 1 a", "gap 1 1 1 a 1 b 1 c", "piece a 1"]
        self.assert_no(Unlike, {}, rows, "match 0")
        self.assert_no(Unlike, {}, rows, "match 1")
        self.assert_no(NoGap, {"number": 2}, rows, "match 2")

    def test_job(self):
        self.assert_told(PAIR, job="part pin 3 5 ; part bore -2 1 ; gap 5 9 2 pin -2 bore")
        told = desk_of(PAIR).say("job")
        self.assertEqual(read(told.replace(" ; ", "\n")),
                         ((("pin", 3, 5), ("bore", -2, 1)), ((((0, 2), (1, -2)), 5, 9),)))

    def test_no_such_gap(self):
        for question in GAP_QUESTIONS:
            for number in (1, 2, 6, 10, GREATEST):
                self.assert_no(NoGap, {"number": number}, PAIR, f"{question} {number}")
            for rows in ([], PAIR[:2]):
                self.assert_no(NoGap, {"number": 0}, rows, f"{question} 0")
                self.assert_no(NoGap, {"number": 5}, rows, f"{question} 5")

    def test_without_any_gap(self):
        for question in JOB_QUESTIONS:
            for rows in ([], PAIR[:1], PAIR[:2], PAIR + ["back"], PAIR[:2] + ["piece pin 5", "offer pin 3 4 1"]):
                self.assert_no(NoGap, {"number": 0}, rows, question)

    def test_too_great(self):
        rows = ["part a 0 300", "part b 0 0", "gap 0 9 1 a", "gap 0 0 1 b"]
        for question in ["fitting", "core", "fewest 0", "fewest 1"]:
            self.assert_no(TooGreat, {"many": 301, "most": 300}, rows, question)
        self.assert_told(rows, kept_0="10 10/301", counter="0 10 0", reach_0="0 300 sometimes")
        rows = ["part a 0 400", "gap 0 9 1 a"]
        self.assert_no(TooGreat, {"many": 401, "most": 400}, rows, "kept 0")
        self.assert_told(rows, counter="0 10", cheapest="none")

    def test_two_too_great_at_once_and_no_gap_ahead(self):
        rows = ["part a 0 999"]
        for question in ["fitting", "core"]:
            self.assert_no(NoGap, {"number": 0}, rows, question)
        self.assert_no(NoGap, {"number": 1}, rows + ["gap 0 9 1 a"], "kept 1")

    def test_too_many_choices(self):
        rows = [f"part {name} 0 9" for name in "abcde"] + ["gap 0 9 1 a"]
        for name, many in zip("abcde", (3, 2, 2, 2, 2)):
            rows += [f"offer {name} 0 {8 - step} {1 + step}" for step in range(many)]
        self.assert_no(TooGreat, {"many": 324, "most": 300}, rows, "cheapest")
        self.assert_told(rows + ["back"], cheapest="0 0 0 0 0 0")

    def test_long_numbers(self):
        rows = [f"part {name} -{SIXTY} {SIXTY}" for name in "abcdefgh"]
        rows += [f"gap -{SIXTY} {SIXTY} 1 a", "gap 0 0 1 a 1 b"]
        self.assert_told(rows, reach_0=f"-{SIXTY} {SIXTY} always", counter="1 " + " ".join(["-" + SIXTY] * 8))
        rows = [f"part {name} -{SIXTY} {SIXTY}" for name in "abcdefg"] + ["part h 0 1", "gap 1 1 1 h"]
        self.assert_told(rows, kept_0=f"{(2 * GREATEST + 1) ** 7} 1/2")

    def test_what_only_asks_changes_nothing(self):
        desk = desk_of(PAIR + ["piece pin 4", "piece bore 0"])
        ahead = all_heard(desk)
        for step in range(3):
            self.assertEqual(all_heard(desk), ahead)
        self.assertEqual([heard(desk, question) for question in reversed(QUESTIONS)], ahead[::-1])


class Rows(Telling):
    def assert_no_row(self, row, rows=PAIR):
        self.assert_no(NoRow, {}, rows, row)

    def test_what_is_no_text(self):
        for thing in [thing for thing in plain_things() if not isinstance(thing, str)] + nested_things():
            self.assert_no_row(thing)
            self.assert_refused(NoRow, {}, Desk().say, thing)
        self.assert_no_row(["reach", "0"])
        self.assert_no_row(("job",))
        desk = desk_of(PAIR)
        self.assert_unchanged(lambda thing: heard(desk, thing), [["part nut 0 1"], {"a": [1]}])

    def test_whatever_text(self):
        for text in [text for text in plain_things() if isinstance(text, str)]:
            self.assert_no_row(text)

    def test_another_word_or_number_of_words(self):
        for row in [
            "", " ", "none", "ok", "Job", "jobs", "JOB", "job 0", "job ", " job", "job job", "counter 0", "fitting 0",
            "core 0", "cheapest 0", "counter ", "back 1", "back ", " back", "back back", "Back", "reach", "kept",
            "fewest", "match", "reach 0 0", "kept 0 0", "fewest 0 0", "match 0 0", "reach  0", "reach 0 ", " reach 0",
            "reach\t0", "reach 0\n", "job\n", "\njob", "part nut 0 1\n", "part nut 0 1\npart a 0 1", "part",
            "part nut", "part nut 0", "part nut 0 1 2", "part  nut 0 1", "part nut 0 1 ", "gap", "gap 0", "gap 0 1",
            "gap 0 1 1", "gap 0 1 1 pin 1", "gap 0 1 pin", "gap 0 1 1 pin pin", "gap 0 1  1 pin", "gap 0 1 1 pin ",
            "offer", "offer pin", "offer pin 3", "offer pin 3 4", "offer pin 3 4 2 1", "piece", "piece pin",
            "piece pin 3 4", "pieces pin 3", "read", "say", "verdict 0", "spread 0", "span", "set", "undo",
            "part nut 0 1;", "job ; job",
        ]:
            self.assert_no_row(row)

    def test_words_that_are_no_names(self):
        for name in ["Nut", "nu1", "abcdefghi", "", "1", "-", "n_t", "nut,", "\u00e9", "pin\n"]:
            for row in [f"part {name} 0 1", f"offer {name} 3 4 2", f"piece {name} 4", f"gap 0 1 1 {name}",
                        f"gap 0 1 1 pin 1 {name}", f"gap 0 1 1 {name} 1 pin"]:
                self.assert_no_row(row)

    def test_words_that_are_no_numbers(self):
        for number in ["x", "", "-", "+1", "01", "-01", "00", "-0", "1.", "1e1", "--1", "1_0", "0x1", "\u0661",
                       "\u00b2", SIXTY_ONE, "-" + SIXTY_ONE, "pin", "1\n", "None", "True"]:
            for row in [
                f"part nut {number} 1", f"part nut 0 {number}", f"gap {number} 1 1 pin", f"gap 0 {number} 1 pin",
                f"gap 0 1 {number} pin", f"gap 0 1 1 pin {number} bore", f"offer pin {number} 4 2",
                f"offer pin 3 {number} 2", f"offer pin 3 4 {number}", f"piece pin {number}", f"reach {number}",
                f"kept {number}", f"fewest {number}", f"match {number}",
            ]:
                self.assert_no_row(row)

    def test_a_gap_below_nought(self):
        for question in GAP_QUESTIONS:
            for number in ("-1", "-2", "-" + SIXTY):
                self.assert_no_row(f"{question} {number}")
                self.assert_no_row(f"{question} {number}", [])

    def test_ahead_of_all_else(self):
        eight = [f"part {name} 0 1" for name in "abcdefgh"]
        self.assert_no_row("part a x 1", eight)
        self.assert_no_row("part I 1 0", eight)
        six = PAIR[:2] + ["gap 0 9 1 pin"] * 6
        for row in ["gap 1 0 1 nut 1", "gap 1 0 1 nut x pin", "gap 1 x 1 nut", "gap 1 0 1 nut 1 Pin"]:
            self.assert_no_row(row, six)
        self.assert_no_row("offer nut 1 0 x")
        self.assert_no_row("offer nut 1 0")
        self.assert_no_row("piece nut x")
        self.assert_no_row("piece nut")
        for row in ["match x", "reach 9 9", "job 1", "counter 1"]:
            self.assert_no_row(row, [])


class Desks(Telling):
    def test_two_desks_in_turn(self):
        one, other = Desk(), Desk()
        others = ["part a 0 9", "gap 0 6 1 a", "offer a 0 6 1"]
        for row, its_row in zip(PAIR, others):
            self.assertEqual((one.say(row), other.say(its_row)), ("ok", "ok"))
        self.assertEqual(all_heard(one), all_heard(desk_of(PAIR)))
        self.assertEqual(all_heard(other), all_heard(desk_of(others)))
        other.say("back")
        self.assertEqual(all_heard(one), all_heard(desk_of(PAIR)))
        self.assertEqual(all_heard(other), all_heard(desk_of(others[:2])))
        numbers = [1 if question.endswith("1") else 0 for question in QUESTIONS]
        self.assertEqual(all_heard(Desk()), [("NoGap", {"number": number}) for number in numbers])

    def random_row(self, source):
        name, other = source.choice("abc"), source.choice("abcd")
        low, high, small = source.randint(-3, 3), source.randint(0, 6), source.randint(-3, 3)
        return source.choice([
            f"part {other} {low} {high}", f"part {other} {low} {low + 2}", f"gap {low} {high} {small} {name}",
            f"gap {low} {high} {small} {name} 1 {other}", f"gap {low} {high} 1 {name} -1 {other}",
            f"offer {name} {low} {low + 1} {high}", f"offer {name} {low} {low} {high + 3}", f"piece {name} {low}",
            f"piece {other} {high}", "back", f"reach {source.randint(-1, 3)}", "job", f"part {name}", "cheapest",
            "core"])

    def test_just_the_deeds_that_stand(self):
        source = random.Random(141)
        seen = set()
        for step in range(60):
            desk = Desk()
            standing = []
            for each in range(40):
                row = self.random_row(source)
                told = heard(desk, row)
                if row == "back":
                    self.assertEqual(told, "ok" if standing else ("NoRow", {}))
                    standing = standing[:-1]
                elif row.split()[0] in ("part", "gap", "offer", "piece") and told == "ok":
                    standing.append(row)
                seen.add(told if isinstance(told, str) and " " not in told else told[0])
            self.assertEqual(all_heard(desk), all_heard(desk_of(standing)), standing)
            self.check_answers(desk, standing)
        self.assertTrue({"ok", "NoRow", "NoGap", "NoPart", "NoDrawing", "NoOffer", "none"} <= seen, seen)

    def check_answers(self, desk, standing):
        """Each answer against that of the stages, for a job made up by the test itself."""
        parts, gaps, offers, boxes = [], [], {}, {}
        for words in [row.split() for row in standing]:
            if words[0] == "part":
                parts.append((words[1], int(words[2]), int(words[3])))
                offers[words[1]] = [(int(words[2]), int(words[3]), 0)]
                boxes[words[1]] = ()
            elif words[0] == "gap":
                names = [part[0] for part in parts]
                terms = tuple((names.index(name), int(times)) for times, name in zip(words[3::2], words[4::2]))
                gaps.append((terms, int(words[1]), int(words[2])))
            elif words[0] == "offer":
                offers[words[1]].append(tuple(int(word) for word in words[2:]))
            else:
                boxes[words[1]] += (int(words[2]),)
        job = (tuple(parts), tuple(gaps))
        offers = offers_of(job[0], [tuple(offers[part[0]]) for part in parts])
        boxes = [boxes[part[0]] for part in parts]
        for number, gap in enumerate(gaps):
            self.check_gap(desk, job[0], number, gap, boxes)
        if gaps:
            self.check_job(desk, job, offers)

    def check_gap(self, desk, drawing, number, gap, boxes):
        ends = reach(drawing, gap)
        self.assertEqual(desk.say(f"reach {number}"), f"{ends[0]} {ends[1]} {verdict(drawing, gap)}")
        top, bottom = share(drawing, gap)
        self.assertEqual(desk.say(f"kept {number}"), f"{kept_count(drawing, gap)} {top}/{bottom}")
        self.assertEqual(desk.say(f"fewest {number}"), " ".join(map(str, fewest(drawing, gap))) or "none")
        if len(gap[0]) == 2:
            (one, s), (other, t) = gap[0]
            found = matched((((0, s), (1, t)), gap[1], gap[2]), boxes[one], boxes[other])
            self.assertEqual(desk.say(f"match {number}"), " ".join(f"{i}-{j}" for i, j in found) or "none")
        else:
            self.assert_refused(Unlike, {}, desk.say, f"match {number}")

    def check_job(self, desk, job, offers):
        broken = counter(job)
        self.assertEqual(desk.say("counter"), " ".join(map(str, (broken[1],) + broken[0])) if broken else "none")
        self.assertEqual(desk.say("fitting"), " ".join(map(str, fitting(job) or ())) or "none")
        self.assertEqual(desk.say("core"), " ".join(map(str, core(job) or ())) or "none")
        choice = cheapest(job, offers)
        told = "none" if choice is None else " ".join(map(str, (price_of(offers, choice),) + choice))
        self.assertEqual(desk.say("cheapest"), told)
        self.assertEqual(desk.say("job"), shown(job).replace("\n", " ; "))


if __name__ == "__main__":
    unittest.main()
