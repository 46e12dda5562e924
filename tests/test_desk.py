"""Promises [2] and [22]: the desk, its rows and its answers."""

import random
import unittest

from pursebench.desk import Desk
from pursebench.errors import BenchError, NoName, NoRow, Taken, TooFew, TooMany
from pursebench.hall import Hall
from samples import choices_of

MOST_BALLOTS = 10 ** 18
SIX = ["f", "bee", "abcdefgh", "dora", "c", "anna"]

WRONG_ROWS = [
    # nothing, and blanks where none belong
    "", " ", "  ", " names", "names ", "  heap", "heap  ", " stand b", "stand b ", "stand  b", "cast  1 a", "cast 1  a",
    "cast 1 a ", "cast 1 ", " cast 1", "lift 1 ", "lift 1  a", "bench 1 ", "bench  1", "judge 1 ", "judge  1",
    "judge 1  a", "judge 1 a ",
    # tabs and line ends
    "names\n", "\nnames", "names\t", "\theap", "heap\r", "stand\tb", "stand b\n", "stand b\t", "cast\t1 a", "cast 1\ta",
    "cast 1 a\n", "cast 1\n", "lift 1\n", "bench 1\n", "bench\n1", "judge 1\n", "judge 1\ta", "judge 1 a\n", "\n", "\t",
    "names\nheap", "stand b\nstand c",
    # unknown words
    "a", "Names", "NAMES", "name", "heaps", "Stand b", "STAND b", "stands b", "castle 1 a", "throw 1 a", "lifts 1",
    "benches 1", "Bench 1", "judged 1", "say names", "1", "1 a", "ok", "fair", "left a / 1", "hall", "help", "b stand",
    "names;", "?",
    # words too many or too few
    "names a", "names 1", "names names", "heap a", "heap 1", "stand", "stand b c", "stand 1 b", "cast", "lift", "bench",
    "judge", "cast a", "lift a", "bench a", "judge a", "bench 1 a", "bench 1 1", "bench a 1", "cast 1 2", "cast 1 2 a",
    "cast a 1", "lift 1 1", "judge 1 2", "judge a 1",
    # names that are empty, too long, with great letters or other signs
    "stand ", "stand abcdefghi", "stand B", "stand bB", "stand Bb", "stand b1", "stand 1", "stand b-c", "stand b_",
    "stand b.", "stand b,c", "stand 'b'", "stand b;", "stand /", "stand ~", "stand {", "stand `", "stand @", "stand [",
    "cast 1 abcdefghi", "cast 1 A", "cast 1 a,b", "cast 1 a b B", "cast 1 a B b", "cast 1 a1", "cast 1 a;",
    "lift 1 abcdefghi", "lift 1 A", "lift 1 a.", "judge 1 abcdefghi", "judge 1 A", "judge 1 a b C", "judge 1 a/",
    "stand \u00e9", "stand \u00df", "stand \u03b1", "cast 1 \u00e9", "stand b\u00a0", "stand\u00a0b",
    # a name that is told twice
    "cast 1 a a", "cast 1 a b a", "cast 1 b a a", "lift 1 a a", "lift 1 a b c a", "judge 1 a a", "judge 1 b a b",
    # numbers of ballots
    "cast 0", "cast 0 a", "cast 00", "cast 01 a", "cast 007 a", "cast +1 a", "cast -1 a", "cast -0 a", "cast 1.0 a",
    "cast 1. a", "cast 1e3 a", "cast 1_0 a", "cast 1,000 a", "cast 0x1 a", "cast one a", "cast 1a", "cast a1",
    "cast 1000000000000000001 a", "cast 1000000000000000001", "cast 9999999999999999999 a",
    "cast 10000000000000000000 a", "cast 01000000000000000000 a", "cast " + "9" * 5000 + " a", "cast " + "1" * 20,
    "cast \u0661 a", "cast \u00b2 a", "cast (1) a",
    "lift 0 a", "lift 00 a", "lift 01 a", "lift +1 a", "lift -1 a", "lift 1.5 a", "lift 1000000000000000001 a",
    "lift " + "9" * 5000, "lift a 1",
    # seats
    "bench 0", "bench 7", "bench 8", "bench 9", "bench 10", "bench 12", "bench 01", "bench 03", "bench 11", "bench 23",
    "bench 123456", "bench +1", "bench -1", "bench 1.0", "bench one", "bench \u0661", "bench ,",
    "judge 0", "judge 0 a", "judge 7 a", "judge 10 a", "judge 12", "judge 01 a", "judge 23 a", "judge +1 a",
    "judge -1 a", "judge 123456 a", "judge \u0663",
]

NO_TEXTS = [None, 0, 1, 7, -1, 10 ** 4000, True, False, [], ["names"], ["stand", "b"], (), ("names",), ("bench", 1),
            [[]], ["names", "heap"], [None], ["n", "a", "m", "e", "s"]]


def desk_of(*rows):
    desk = Desk()
    for row in rows:
        desk.say(row)
    return desk


def state(desk):
    return (desk.say("names"), desk.say("heap"))


class DeskCase(unittest.TestCase):
    def assert_said(self, desk, row, wanted):
        told = desk.say(row)
        self.assertEqual(told, wanted, row)
        self.assertIs(type(told), str)

    def assert_refused(self, refusal, desk, row):
        """Refused with just this class, and nothing is changed by it."""
        before = state(desk)
        with self.assertRaises(BenchError, msg=repr(row)[:80]) as caught:
            desk.say(row)
        self.assertIs(type(caught.exception), refusal, repr(row)[:80])
        self.assertEqual(state(desk), before)


class Rows(DeskCase):
    def test_stand_and_names(self):
        desk = Desk()
        self.assert_said(desk, "names", "")
        self.assert_said(desk, "stand b", "ok")
        self.assert_said(desk, "names", "b")
        self.assert_said(desk, "stand abcdefgh", "ok")
        self.assert_said(desk, "stand a", "ok")
        self.assert_said(desk, "names", "b abcdefgh a")

    def test_words_of_the_rows_are_names_too(self):
        desk = Desk()
        for name in ["stand", "cast", "names", "heap", "judge", "bench"]:
            self.assert_said(desk, "stand " + name, "ok")
        self.assert_said(desk, "names", "stand cast names heap judge bench")
        self.assert_said(desk, "cast 3 names heap", "ok")
        self.assert_said(desk, "heap", "3 names heap")
        self.assert_said(desk, "bench 1", "names")

    def test_cast_lift_and_heap(self):
        desk = desk_of("stand b", "stand a", "stand c")
        self.assert_said(desk, "heap", "")
        self.assert_said(desk, "cast 5 c a", "ok")
        self.assert_said(desk, "heap", "5 a c")
        self.assert_said(desk, "cast 12 b", "ok")
        self.assert_said(desk, "cast 1 a c", "ok")
        self.assert_said(desk, "cast 3", "ok")
        self.assert_said(desk, "heap", "3; 12 b; 6 a c")
        self.assert_said(desk, "lift 2 c a", "ok")
        self.assert_said(desk, "lift 3", "ok")
        self.assert_said(desk, "heap", "12 b; 4 a c")
        self.assert_said(desk, "lift 12 b", "ok")
        self.assert_said(desk, "lift 4 a c", "ok")
        self.assert_said(desk, "heap", "")

    def test_no_name_at_cast_and_lift(self):
        desk = Desk()
        self.assert_said(desk, "cast 7", "ok")
        self.assert_said(desk, "heap", "7")
        self.assert_said(desk, "lift 7", "ok")
        self.assert_said(desk, "heap", "")

    def test_the_least_and_the_greatest_number_of_ballots(self):
        desk = desk_of("stand a")
        self.assert_said(desk, "cast 1 a", "ok")
        self.assert_said(desk, "cast 999999999999999999 a", "ok")
        self.assert_said(desk, "cast 1000000000000000000", "ok")
        self.assert_said(desk, "heap", "1000000000000000000; 1000000000000000000 a")
        self.assert_said(desk, "lift 1000000000000000000 a", "ok")
        self.assert_said(desk, "heap", "1000000000000000000")

    def test_bench(self):
        desk = desk_of("stand x", "stand a", "stand m", "stand b")
        for seats in "123456":
            self.assert_said(desk, "bench " + seats, "")
        for row in ["cast 3 b", "cast 2 m", "cast 1 x"]:
            desk.say(row)
        self.assert_said(desk, "bench 1", "b")
        self.assert_said(desk, "bench 3", "b m x")
        self.assert_said(desk, "bench 6", "b m x")
        self.assert_said(Desk(), "bench 6", "")

    def test_judge(self):
        desk = desk_of("stand b", "stand a", "cast 3 a", "cast 5 b")
        self.assert_said(desk, "judge 3 b a", "fair")
        self.assert_said(desk, "judge 3 a b", "fair")
        self.assert_said(desk, "judge 3 b", "left a / 3")
        self.assert_said(desk, "judge 3 a", "left b / 5")
        self.assert_said(desk, "judge 1 a", "fair")

    def test_judge_with_no_name(self):
        desk = Desk()
        for seats in "123456":
            self.assert_said(desk, "judge " + seats, "fair")
        desk = desk_of("stand a", "cast 3 a")
        self.assert_said(desk, "judge 1", "left a / 3")
        desk.say("cast 1")
        self.assert_said(desk, "judge 1", "fair")

    def test_the_ballots_of_several_piles_together(self):
        desk = desk_of("stand z", "stand m", "stand k", "stand a", "cast 7 a z m", "cast 5 k z a")
        self.assert_said(desk, "judge 2 m k", "left z a / 12")
        self.assert_said(desk, "judge 2 k m", "left z a / 12")
        desk.say("cast 1000000000000000000 m k a z")
        # The third pile likes two members, so it is not in the group, and the others have too little alone.
        self.assert_said(desk, "judge 2 m k", "fair")

    def test_a_pile_that_is_not_in_the_group_is_not_counted(self):
        desk = desk_of("stand a", "stand b", "cast 4 a", "cast 3 a b", "cast 2")
        self.assert_said(desk, "judge 3 b", "left a / 4")
        self.assert_said(desk, "judge 3 a", "fair")

    def test_great_numbers_together(self):
        desk = desk_of("stand a", "stand b", "stand c")
        for names in ["a", "a b", "a c", "a b c"]:
            desk.say("cast 1000000000000000000 " + names)
        self.assert_said(desk, "judge 1", "left a / 4000000000000000000")


class Refusals(DeskCase):
    def test_rows_that_are_none(self):
        for desk in [Desk(), desk_of("stand a", "stand b", "cast 2 a b", "cast 1")]:
            for row in WRONG_ROWS:
                self.assert_refused(NoRow, desk, row)

    def test_what_is_no_text(self):
        desk = desk_of("stand a", "cast 2 a")
        for thing in NO_TEXTS:
            self.assert_refused(NoRow, desk, thing)

    def test_rows_that_are_taken_are_no_others(self):
        # Each of the rows with one thing put wrong; as it stands it is taken.
        taken = ["names", "heap", "stand c", "cast 1 a", "cast 1", "lift 1 b a", "bench 3", "judge 3 b a", "judge 2"]
        for row in taken:
            desk = desk_of("stand a", "stand b", "cast 2 a b", "cast 1")
            for wrong in [" " + row, row + " ", row + "\n", row.upper(), row.replace(" ", "  ") + " !", "x" + row]:
                self.assert_refused(NoRow, desk, wrong)
            self.assertIs(type(desk.say(row)), str)

    def test_no_row_ahead_of_everything_else(self):
        full = desk_of(*["stand " + name for name in SIX])
        for row in ["stand f f", "stand F", "stand abcdefghi", "stand other ", "cast 1 other other", "cast 0 other",
                    "cast 1000000000000000001 f", "lift 0 other", "lift 2 f f", "lift 1 g g", "judge 7 other",
                    "judge 1 other other", "judge 1 other Other", "judge 0 f"]:
            self.assert_refused(NoRow, full, row)
        heavy = desk_of("stand a", "cast 1000000000000000000 a")
        for row in ["cast 1 a a", "cast 01 a", "lift 1000000000000000001 a", "stand a ", "stand a a"]:
            self.assert_refused(NoRow, heavy, row)

    def test_stand_as_the_hall_refuses_it(self):
        desk = desk_of(*["stand " + name for name in SIX])
        self.assert_refused(Taken, desk, "stand dora")
        self.assert_refused(TooMany, desk, "stand other")

    def test_cast_as_the_hall_refuses_it(self):
        desk = desk_of(*["stand " + name for name in SIX])
        for place, names in enumerate(choices_of(SIX)[:12]):
            desk.say(" ".join(["cast", str(place + 1)] + names))
        self.assert_refused(NoName, desk, "cast 1 other")
        self.assert_refused(NoName, desk, "cast 1 a f bee")
        self.assert_refused(NoName, desk, "cast 1 a b c d e f g h")
        self.assert_refused(TooMany, desk, "cast 1 f bee abcdefgh dora")
        self.assert_refused(TooMany, desk, "cast 1000000000000000000")
        self.assert_said(desk, "cast 999999999999999999", "ok")
        self.assert_refused(TooMany, desk, "cast 1")

    def test_lift_as_the_hall_refuses_it(self):
        desk = desk_of("stand a", "stand b", "cast 4 a")
        self.assert_refused(NoName, desk, "lift 9 a c")
        self.assert_refused(TooFew, desk, "lift 5 a")
        self.assert_refused(TooFew, desk, "lift 1 b")
        self.assert_refused(TooFew, desk, "lift 1")
        self.assert_refused(TooFew, desk, "lift 1000000000000000000 a")

    def test_judge_as_the_hall_refuses_it(self):
        desk = desk_of("stand a", "stand b", "cast 4 a")
        self.assert_refused(NoName, desk, "judge 3 c")
        self.assert_refused(NoName, desk, "judge 3 a c")
        self.assert_refused(NoName, desk, "judge 3 a b c d e f g")
        self.assert_refused(NoName, Desk(), "judge 1 a")

    def test_two_desks_keep_apart(self):
        one, other = Desk(), Desk()
        one.say("stand a")
        one.say("cast 3 a")
        self.assertEqual(state(other), ("", ""))
        self.assert_refused(NoName, other, "cast 1 a")
        other.say("stand b")
        self.assertEqual(state(one), ("a", "3 a"))
        self.assertEqual(state(other), ("b", ""))


class AgainstAHall(DeskCase):
    def row_of(self, chance):
        some = chance.sample(SIX + ["g"], chance.randrange(4))
        many = chance.choice([1, 2, 10, 123, MOST_BALLOTS - 1, MOST_BALLOTS])
        seats = chance.randrange(1, 7)
        return chance.choice([("stand", chance.choice(SIX + ["g"])), ("cast", many, some), ("cast", many, some),
                              ("lift", many, some), ("bench", seats), ("judge", seats, some), ("names",), ("heap",)])

    def words(self, deed):
        told = [deed[0]]
        for part in deed[1:]:
            told.extend(part if isinstance(part, list) else [str(part)])
        return " ".join(told)

    def by_hall(self, hall, deed):
        if deed[0] == "names":
            return " ".join(hall.names())
        if deed[0] == "heap":
            names = hall.names()
            return "; ".join(" ".join([str(weight)] + [names[mark] for mark in marks]) for weight, marks in hall.heap())
        if deed[0] == "bench":
            return " ".join(hall.bench_of(deed[1]))
        if deed[0] == "judge":
            judged = hall.judge(deed[1], deed[2])
            if judged is None:
                return "fair"
            names = hall.names()
            ballots = sum(weight for weight, marks in hall.heap() if [names[mark] for mark in marks] in judged[1])
            return f"left {' '.join(judged[0])} / {ballots}"
        getattr(hall, deed[0])(*deed[1:])
        return "ok"

    def test_many_rows(self):
        chance = random.Random(51)
        answers = {}
        for number in range(60):
            desk, hall = Desk(), Hall()
            for deed in [self.row_of(chance) for place in range(80)]:
                try:
                    wanted = self.by_hall(hall, deed)
                except BenchError as refusal:
                    self.assert_refused(type(refusal), desk, self.words(deed))
                    answers[type(refusal).__name__] = True
                else:
                    self.assert_said(desk, self.words(deed), wanted)
                    answers[wanted.split(" ")[0]] = True
        for answer in ["ok", "fair", "left", "", "NoName", "Taken", "TooMany", "TooFew"]:
            self.assertIn(answer, answers)


if __name__ == "__main__":
    unittest.main()
