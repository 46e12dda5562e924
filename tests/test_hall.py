"""Promises [2], [3], [20] and [21]: the hall."""

import copy
import itertools
import random
import unittest

import samples
from pursebench.benches import bench
from pursebench.errors import BenchError, NoName, Taken, TooFew, TooMany
from pursebench.hall import Hall
from samples import choices_of, every_marks, wronged

MOST_BALLOTS = 10 ** 18
SIX = ["f", "bee", "abcdefgh", "dora", "c", "anna"]


def hall_of(names, piles=()):
    hall = Hall()
    for name in names:
        hall.stand(name)
    for many, some in piles:
        hall.cast(many, list(some))
    return hall


def full_hall():
    """Twelve piles, of one to twelve ballots."""
    return hall_of(SIX, [(place + 1, some) for place, some in enumerate(choices_of(SIX)[1:13])])


class Model:
    """A hall in the plain words of the document, to hold the program against."""

    def __init__(self):
        self.known = []
        self.piles = {}

    def stand(self, name):
        if name in self.known:
            return Taken
        if len(self.known) == 6:
            return TooMany
        self.known.append(name)
        return None

    def cast(self, many, names):
        if not set(names) <= set(self.known):
            return NoName
        marks = frozenset(names)
        if len([other for other in self.piles if other != marks]) == 12:
            return TooMany
        if self.piles.get(marks, 0) + many > MOST_BALLOTS:
            return TooMany
        self.piles[marks] = self.piles.get(marks, 0) + many
        return None

    def lift(self, many, names):
        if not set(names) <= set(self.known):
            return NoName
        marks = frozenset(names)
        if self.piles.get(marks, 0) < many:
            return TooFew
        self.piles[marks] -= many
        if self.piles[marks] == 0:
            self.piles.pop(marks)
        return None

    def heap(self):
        found = [(many, sorted(self.known.index(name) for name in marks)) for marks, many in self.piles.items()]
        return sorted(found, key=lambda pile: pile[1])


class HallCase(unittest.TestCase):
    def assert_refused(self, refusal, hall, deed, *told):
        """Refused with just this class, and nothing is changed by it."""
        before = (hall.names(), hall.heap())
        with self.assertRaises(BenchError) as caught:
            deed(*told)
        self.assertIs(type(caught.exception), refusal)
        self.assertEqual((hall.names(), hall.heap()), before)


class Stand(HallCase):
    def test_names_by_their_numbers(self):
        hall = Hall()
        self.assertEqual(hall.names(), [])
        for number, name in enumerate(SIX):
            self.assertIsNone(hall.stand(name))
            self.assertEqual(hall.names(), SIX[:number + 1])
        self.assertIs(type(hall.names()), list)

    def test_names_of_one_and_of_eight_letters(self):
        hall = hall_of(["a", "zzzzzzzz", "z", "aaaaaaaa", "aaaaaaa", "heap"])
        self.assertEqual(hall.names(), ["a", "zzzzzzzz", "z", "aaaaaaaa", "aaaaaaa", "heap"])

    def test_taken(self):
        hall = hall_of(["a", "b"])
        self.assert_refused(Taken, hall, hall.stand, "a")
        self.assert_refused(Taken, hall, hall.stand, "b")
        hall.stand("ab")
        self.assertEqual(hall.names(), ["a", "b", "ab"])

    def test_the_sixth_and_the_seventh(self):
        hall = hall_of(SIX[:5])
        self.assertIsNone(hall.stand("sixth"))
        self.assert_refused(TooMany, hall, hall.stand, "seventh")
        self.assert_refused(TooMany, hall, hall.stand, "a")

    def test_taken_ahead_of_too_many(self):
        hall = hall_of(SIX)
        for name in SIX:
            self.assert_refused(Taken, hall, hall.stand, name)
        self.assert_refused(TooMany, hall, hall.stand, "other")

    def test_one_may_stand_when_ballots_lie_there(self):
        hall = hall_of(["b"], [(3, ["b"]), (2, [])])
        hall.stand("a")
        hall.cast(1, ["a", "b"])
        self.assertEqual(hall.heap(), [(2, []), (3, [0]), (1, [0, 1])])


class Cast(HallCase):
    def test_ordinary(self):
        hall = hall_of(["b", "a", "c"])
        self.assertIsNone(hall.cast(5, ["a", "c"]))
        self.assertIsNone(hall.cast(1, ["b"]))
        self.assertEqual(hall.heap(), [(1, [0]), (5, [1, 2])])

    def test_names_in_any_order_lie_in_one_pile(self):
        hall = hall_of(SIX)
        for number, order in enumerate(itertools.permutations(["c", "f", "bee"])):
            self.assertIsNone(hall.cast(10 ** number, list(order)))
        self.assertEqual(hall.heap(), [(111111, [0, 1, 4])])
        hall.cast(7, SIX[::-1])
        self.assertEqual(hall.heap(), [(7, [0, 1, 2, 3, 4, 5]), (111111, [0, 1, 4])])

    def test_no_names(self):
        hall = Hall()
        self.assertIsNone(hall.cast(2, []))
        self.assertIsNone(hall.cast(3, []))
        self.assertEqual(hall.heap(), [(5, [])])

    def test_a_name_that_does_not_stand(self):
        hall = hall_of(["a", "b"], [(4, ["a"])])
        for names in [["c"], ["a", "c"], ["c", "a"], ["a", "b", "ab"], [""], ["A"]]:
            self.assert_refused(NoName, hall, hall.cast, 1, names)
        empty = Hall()
        self.assert_refused(NoName, empty, empty.cast, 1, ["a"])

    def test_no_name_ahead_of_too_many(self):
        hall = full_hall()
        self.assert_refused(NoName, hall, hall.cast, 1, ["f", "other"])
        self.assert_refused(NoName, hall, hall.cast, MOST_BALLOTS, ["other"])
        heavy = hall_of(["a"], [(MOST_BALLOTS, ["a"])])
        self.assert_refused(NoName, heavy, heavy.cast, MOST_BALLOTS, ["a", "b"])

    def test_a_thirteenth_pile_with_other_marks(self):
        hall = full_hall()
        self.assertEqual(len(hall.heap()), 12)
        lying = choices_of(SIX)[1:13]
        for names in choices_of(SIX):
            if names not in lying:
                self.assert_refused(TooMany, hall, hall.cast, 1, names)
                self.assert_refused(TooMany, hall, hall.cast, 1, names[::-1])

    def test_one_of_the_twelve_takes_ballots(self):
        hall = full_hall()
        for place, names in enumerate(choices_of(SIX)[1:13]):
            self.assertIsNone(hall.cast(100, names[::-1]))
            self.assertIn((place + 101, sorted(SIX.index(name) for name in names)), hall.heap())
        self.assertEqual(len(hall.heap()), 12)

    def test_just_as_many_ballots_as_a_pile_may_have(self):
        hall = hall_of(["a", "b"])
        self.assertIsNone(hall.cast(MOST_BALLOTS, ["a"]))
        self.assert_refused(TooMany, hall, hall.cast, 1, ["a"])
        self.assert_refused(TooMany, hall, hall.cast, MOST_BALLOTS, ["a"])
        self.assertIsNone(hall.cast(MOST_BALLOTS - 3, ["b", "a"]))
        self.assert_refused(TooMany, hall, hall.cast, 4, ["a", "b"])
        self.assertIsNone(hall.cast(3, ["a", "b"]))
        self.assert_refused(TooMany, hall, hall.cast, 1, ["b", "a"])
        self.assertEqual(hall.heap(), [(MOST_BALLOTS, [0]), (MOST_BALLOTS, [0, 1])])

    def test_twelve_piles_may_each_have_as_many(self):
        hall = Hall()
        for name in SIX:
            hall.stand(name)
        for names in choices_of(SIX)[:12]:
            hall.cast(MOST_BALLOTS, names)
        self.assertEqual([weight for weight, marks in hall.heap()], [MOST_BALLOTS] * 12)
        self.assert_refused(TooMany, hall, hall.cast, 1, SIX)
        self.assertEqual(len(hall.bench_of(6)), 6)


class Lift(HallCase):
    def test_some_of_a_pile(self):
        hall = hall_of(["a", "b"], [(5, ["a", "b"]), (2, ["a"])])
        self.assertIsNone(hall.lift(3, ["b", "a"]))
        self.assertEqual(hall.heap(), [(2, [0]), (2, [0, 1])])

    def test_all_of_a_pile(self):
        hall = hall_of(["a", "b"], [(5, ["a", "b"]), (2, [])])
        self.assertIsNone(hall.lift(5, ["b", "a"]))
        self.assertEqual(hall.heap(), [(2, [])])
        self.assertIsNone(hall.lift(1, []))
        self.assertIsNone(hall.lift(1, []))
        self.assertEqual(hall.heap(), [])
        self.assert_refused(TooFew, hall, hall.lift, 1, [])

    def test_more_than_lie_there(self):
        hall = hall_of(["a", "b"], [(5, ["a", "b"]), (9, ["a"])])
        self.assert_refused(TooFew, hall, hall.lift, 6, ["a", "b"])
        self.assert_refused(TooFew, hall, hall.lift, MOST_BALLOTS, ["a"])
        self.assert_refused(TooFew, hall, hall.lift, 1, ["b"])
        self.assert_refused(TooFew, hall, hall.lift, 1, [])
        hall.lift(5, ["a", "b"])
        self.assert_refused(TooFew, hall, hall.lift, 1, ["a", "b"])

    def test_no_name_ahead_of_too_few(self):
        hall = hall_of(["a"], [(5, ["a"])])
        self.assert_refused(NoName, hall, hall.lift, 6, ["a", "b"])
        self.assert_refused(NoName, hall, hall.lift, 1, ["b"])
        self.assert_refused(TooFew, hall, hall.lift, 6, ["a"])

    def test_where_a_pile_is_gone_another_one_may_come(self):
        hall = full_hall()
        self.assert_refused(TooMany, hall, hall.cast, 1, [])
        hall.lift(11, choices_of(SIX)[12])
        self.assert_refused(TooMany, hall, hall.cast, 1, [])
        hall.lift(1, choices_of(SIX)[12])
        self.assertEqual(len(hall.heap()), 11)
        self.assertIsNone(hall.cast(1, []))
        self.assertEqual(hall.heap()[0], (1, []))
        self.assert_refused(TooMany, hall, hall.cast, 1, choices_of(SIX)[12])

    def test_where_ballots_were_lifted_others_may_come(self):
        hall = hall_of(["a"], [(MOST_BALLOTS, ["a"])])
        hall.lift(2, ["a"])
        self.assert_refused(TooMany, hall, hall.cast, 3, ["a"])
        self.assertIsNone(hall.cast(2, ["a"]))
        self.assertIsNone(hall.lift(MOST_BALLOTS, ["a"]))
        self.assertEqual(hall.heap(), [])


class Told(HallCase):
    def test_heap_is_tidied(self):
        hall = hall_of(["a", "b", "c"], [(1, ["c"]), (2, ["c", "b"]), (3, ["a", "c"]), (4, []), (5, ["b"])])
        hall.cast(1, ["b", "c"])
        self.assertEqual(hall.heap(), [(4, []), (3, [0, 2]), (5, [1]), (3, [1, 2]), (1, [2])])
        self.assertEqual(Hall().heap(), [])
        self.assertIs(type(hall.heap()[0]), tuple)
        self.assertEqual([type(part) for part in hall.heap()[0]], [int, list])

    def test_lists_are_new_each_time(self):
        hall = hall_of(["a", "b"], [(5, ["a", "b"]), (2, ["a"])])
        heap = hall.heap()
        heap[0][1].append(5)
        heap[1][1].clear()
        heap.append((1, []))
        self.assertEqual(hall.heap(), [(2, [0]), (5, [0, 1])])
        names = hall.names()
        names.append("c")
        names[0] = "d"
        self.assertEqual(hall.names(), ["a", "b"])
        members = hall.bench_of(2)
        members.clear()
        self.assertEqual(hall.bench_of(2), ["a", "b"])
        judged = hall.judge(2, [])
        kept = copy.deepcopy(judged)
        judged[0].append("c")
        for names in judged[1]:
            names.append("c")
        judged[1].append([])
        self.assertEqual(hall.judge(2, []), kept)
        self.assertEqual((hall.names(), hall.heap()), (["a", "b"], [(2, [0]), (5, [0, 1])]))

    def test_lists_handed_in_are_not_kept_and_stay(self):
        hall = hall_of(["a", "b", "c"])
        names = ["c", "a"]
        hall.cast(4, names)
        self.assertEqual(names, ["c", "a"])
        names.append("b")
        self.assertEqual(hall.heap(), [(4, [0, 2])])
        names = ["c", "a"]
        hall.lift(1, names)
        self.assertEqual(names, ["c", "a"])
        names.clear()
        self.assertEqual(hall.heap(), [(3, [0, 2])])
        names = ["c", "b"]
        hall.judge(2, names)
        self.assertEqual(names, ["c", "b"])
        self.assertEqual((hall.names(), hall.heap()), (["a", "b", "c"], [(3, [0, 2])]))

    def test_two_halls_keep_apart(self):
        one, other = Hall(), Hall()
        one.stand("a")
        one.cast(3, ["a"])
        self.assertEqual((other.names(), other.heap(), other.bench_of(3)), ([], [], []))
        self.assert_refused(NoName, other, other.cast, 1, ["a"])
        other.stand("b")
        other.stand("a")
        other.cast(2, ["a"])
        self.assertEqual((one.names(), one.heap()), (["a"], [(3, [0])]))
        self.assertEqual((other.names(), other.heap()), (["b", "a"], [(2, [1])]))


class BenchOf(HallCase):
    def test_no_ballots(self):
        for hall in [Hall(), hall_of(SIX), hall_of(SIX, [(5, [])])]:
            for seats in range(1, 7):
                self.assertEqual(hall.bench_of(seats), [])

    def test_in_the_order_in_which_they_were_chosen(self):
        # By rounds the fourth and then the third, by growth the first of those who stood.
        hall = hall_of(["x", "a", "m", "b"], [(3, ["b"]), (2, ["m"]), (1, ["x"])])
        self.assertEqual(hall.bench_of(3), ["b", "m", "x"])
        self.assertEqual(bench(hall.heap(), 3)[0], [0, 2, 3])
        self.assertEqual(hall.bench_of(6), ["b", "m", "x"])
        self.assertEqual(hall.bench_of(1), ["b"])
        self.assertIs(type(hall.bench_of(3)), list)

    def test_rounds_ahead_of_growth(self):
        hall = hall_of(["a", "b", "c", "d"], [(3, ["a", "b"]), (1, ["b", "c"]), (2, ["d"])])
        self.assertEqual(hall.bench_of(3), ["b", "d", "a"])

    def test_against_the_bench_of_the_heap(self):
        chance = random.Random(41)
        for number in range(150):
            hall = random_hall(chance)
            names, heap = hall.names(), hall.heap()
            for seats in range(1, 7):
                members, bought, added = bench(heap, seats)
                told = hall.bench_of(seats)
                self.assertEqual(told, [names[row[0]] for row in bought + added])
                self.assertEqual(sorted(names.index(name) for name in told), members)
                self.assertIsNone(hall.judge(seats, told))
            self.assertEqual((hall.names(), hall.heap()), (names, heap))


def random_hall(chance):
    hall = hall_of(chance.sample(SIX, chance.randrange(7)))
    for number in range(chance.randrange(6)):
        names = hall.names()
        hall.cast(chance.randrange(1, chance.choice([3, 9])), chance.sample(names, chance.randrange(len(names) + 1)))
    return hall


class Judge(HallCase):
    def test_no_ballots(self):
        self.assertIsNone(Hall().judge(3, []))
        hall = hall_of(["a", "b"])
        for seats in range(1, 7):
            for names in [[], ["a"], ["b", "a"]]:
                self.assertIsNone(hall.judge(seats, names))
        hall.cast(9, [])
        self.assertIsNone(hall.judge(6, ["b"]))

    def test_a_name_that_does_not_stand(self):
        hall = hall_of(["a", "b"], [(1, ["a"])])
        for names in [["c"], ["a", "c"], ["c", "b", "a"]]:
            self.assert_refused(NoName, hall, hall.judge, 2, names)
        empty = Hall()
        self.assert_refused(NoName, empty, empty.judge, 1, ["a"])

    def test_none_or_a_pair(self):
        hall = hall_of(["b", "a"], [(1, ["a"]), (1, ["b"])])
        self.assertEqual(hall.judge(2, ["a"]), (["b"], [["b"]]))
        self.assertEqual(hall.judge(2, ["b"]), (["a"], [["a"]]))
        self.assertIsNone(hall.judge(2, ["a", "b"]))
        self.assertIsNone(hall.judge(1, []))
        told = hall.judge(2, ["a"])
        self.assertIs(type(told), tuple)
        self.assertEqual([type(part) for part in told], [list, list])

    def test_names_in_the_order_of_their_numbers(self):
        # Only the two together have a claim, to two seats by both of those whom both like.
        hall = hall_of(["z", "m", "k", "a"], [(1, ["a", "z", "m"]), (1, ["k", "z", "a"])])
        self.assertEqual(hall.heap(), [(1, [0, 1, 3]), (1, [0, 2, 3])])
        wanted = (["z", "a"], [["z", "m", "a"], ["z", "k", "a"]])
        self.assertEqual(hall.judge(2, ["k", "m"]), wanted)
        self.assertEqual(hall.judge(2, ["m", "k"]), wanted)

    def test_piles_in_the_order_of_the_heap(self):
        hall = hall_of(["c", "b", "a"], [(1, ["a"]), (2, ["a", "b"]), (1, ["a", "c"])])
        self.assertEqual(hall.judge(1, []), (["a"], [["c", "a"], ["b", "a"], ["a"]]))

    def test_names_handed_in_in_any_order(self):
        chance = random.Random(42)
        for number in range(100):
            hall = random_hall(chance)
            for names in choices_of(hall.names()):
                told = hall.judge(3, names)
                chance.shuffle(names)
                self.assertEqual(hall.judge(3, names) is None, told is None)

    def test_against_a_plain_search(self):
        chance = random.Random(43)
        seen = [0, 0]
        for number in range(150):
            hall = random_hall(chance)
            known, heap = hall.names(), hall.heap()
            members = sorted(chance.sample(range(len(known)), chance.randrange(len(known) + 1)))
            seats = chance.randrange(1, 7)
            found = wronged(heap, seats, members, samples.is_left_out)
            told = hall.judge(seats, [known[member] for member in members][::-1])
            seen[told is not None] += 1
            if told is None:
                self.assertEqual(found, [])
            else:
                some = [known.index(name) for name in told[0]]
                marks = [[known.index(name) for name in names] for names in told[1]]
                group = [place for place, pile in enumerate(heap) if pile[1] in marks]
                self.assertEqual([heap[place][1] for place in group], marks)
                self.assertIn((some, group), found)
                # The largest by its list: all who agree and like fewer members.
                self.assertEqual(group, max([other for by, other in found if by == some], key=len))
        self.assertGreater(min(seen), 20)


class WholeHall(HallCase):
    def test_what_is_told_hangs_on_the_heap_alone(self):
        chance = random.Random(44)
        for number in range(80):
            names = chance.sample(SIX, 4)
            piles = [(chance.randrange(2, 9), chance.sample(names, chance.randrange(5))) for place in range(4)]
            one = hall_of(names, piles)
            other = hall_of(names, [(7, names), (1, [])])
            for many, some in piles[::-1]:
                other.cast(many - 1, some[::-1])
            for many, some in piles:
                other.cast(1, some)
            other.lift(1, [])
            other.lift(7, names[::-1])
            self.assertEqual(one.heap(), other.heap())
            for seats in range(1, 7):
                self.assertEqual(one.bench_of(seats), other.bench_of(seats))
                for some in choices_of(names):
                    self.assertEqual(one.judge(seats, some) is None, other.judge(seats, some) is None)

    def test_many_deeds_against_a_plain_hall(self):
        chance = random.Random(45)
        letters = SIX + ["g", "h"]
        refused = {}
        for number in range(60):
            hall, model = Hall(), Model()
            for deed in range(120):
                name = chance.choice(["stand", "cast", "cast", "cast", "lift"])
                if name == "stand":
                    told = [chance.choice(letters)]
                else:
                    known = model.known if chance.randrange(12) else letters
                    some = chance.sample(known, chance.randrange(len(known) + 1))
                    told = [chance.choice([1, 2, 3, MOST_BALLOTS // 2, MOST_BALLOTS - 1, MOST_BALLOTS]), some]
                wanted = getattr(model, name)(*told)
                if wanted is None:
                    self.assertIsNone(getattr(hall, name)(*told))
                else:
                    refused[name, wanted.__name__] = True
                    self.assert_refused(wanted, hall, getattr(hall, name), *told)
                self.assertEqual((hall.names(), hall.heap()), (model.known, model.heap()))
        self.assertEqual(sorted(refused), [("cast", "NoName"), ("cast", "TooMany"), ("lift", "NoName"),
                                           ("lift", "TooFew"), ("stand", "Taken"), ("stand", "TooMany")])

    def test_the_same_marks_by_whatever_names(self):
        for marks in every_marks():
            hall = hall_of(SIX, [(3, [SIX[candidate] for candidate in marks[::-1]])])
            self.assertEqual(hall.heap(), [(3, marks)])


if __name__ == "__main__":
    unittest.main()
