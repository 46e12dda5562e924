"""Promises [2], [3], [18] and [19]: party lists, and seats that are dealt by weights and caps."""

import copy
import itertools
import random
import unittest
from fractions import Fraction

from pursebench.dealt import dealt, is_lists
from pursebench.growth import growth
from samples import ALL_SIX, MOST, every_marks, fraction, pair_of, small_heaps, twins


def plain_dealt(weights, caps, seats):
    """All quotients within the caps at once, the greatest ones first, of like ones the least place."""
    quotients = [(-Fraction(weight, part), place) for place, weight in enumerate(weights)
                 for part in range(1, caps[place] + 1)]
    first = sorted(quotients)[:seats]
    counts = [len([one for one in first if one[1] == place]) for place in range(len(weights))]
    return (counts, pair_of(-first[-1][0]) if first else None)


def some_weights(chance):
    heaviest = chance.choice([1, 3, 12, MOST])
    return [chance.randrange(1, heaviest + 1) for place in range(chance.randrange(1, 7))]


def some_caps(chance, weights):
    highest = chance.choice([1, 2, 6])
    return [chance.randrange(highest + 1) for weight in weights]


class IsLists(unittest.TestCase):
    def assert_lists(self, heap, wanted):
        before = copy.deepcopy(heap)
        self.assertIs(is_lists(heap), wanted)
        self.assertEqual(heap, before)

    def test_like_marks_and_marks_with_none_in_common(self):
        self.assert_lists([(1, [0, 1]), (2, [0, 1])], True)
        self.assert_lists([(1, [0, 1]), (2, [2, 5])], True)
        self.assert_lists([(1, [0, 1]), (2, [2, 5]), (4, [0, 1]), (MOST, [3]), (1, [2, 5])], True)
        self.assert_lists([(1, [candidate]) for candidate in ALL_SIX * 2], True)

    def test_marks_that_share_one(self):
        self.assert_lists([(1, [0, 1]), (2, [1, 2])], False)
        self.assert_lists([(1, [0, 1]), (2, [1])], False)
        self.assert_lists([(1, [1]), (2, [0, 1])], False)
        self.assert_lists([(1, [0, 1, 2]), (2, [0, 1, 3])], False)
        self.assert_lists([(1, ALL_SIX), (2, [3])], False)

    def test_two_that_lie_apart(self):
        self.assert_lists([(1, [0]), (2, [1]), (3, [2]), (4, [0, 5])], False)
        self.assert_lists([(1, [3]), (2, [1, 4]), (3, [2]), (4, []), (1, [4])], False)
        self.assert_lists([(1, [0]), (1, [0]), (4, [0, 5])], False)

    def test_piles_without_marks(self):
        self.assert_lists([(1, [])], True)
        self.assert_lists([(1, []), (2, [])], True)
        self.assert_lists([(1, []), (2, [0, 1]), (3, []), (1, [2])], True)
        self.assert_lists([(1, []), (2, [0, 1]), (3, []), (1, [1])], False)

    def test_one_pile_and_no_piles(self):
        self.assert_lists([], True)
        for marks in every_marks():
            self.assert_lists([(7, marks)], True)

    def test_against_the_plain_words(self):
        seen = [0, 0]
        for heap in small_heaps(221, 600, 4):
            wanted = all(one[1] == other[1] or not set(one[1]) & set(other[1])
                         for one, other in itertools.combinations(heap, 2))
            self.assert_lists(heap, wanted)
            seen[wanted] += 1
            for twin in twins(heap):
                self.assert_lists(twin, wanted)
        self.assertGreater(min(seen), 100)


class Dealt(unittest.TestCase):
    def assert_dealt(self, weights, caps, seats, wanted):
        before = (list(weights), list(caps))
        told = dealt(weights, caps, seats)
        self.assertEqual(told, wanted)
        self.assertEqual((weights, caps), before)
        self.assertIs(type(told), tuple)
        self.assertIs(type(told[0]), list)
        self.assertEqual([type(count) for count in told[0]], [int] * len(weights))
        if told[1] is not None:
            self.assertIs(type(told[1]), tuple)
            self.assertEqual([type(part) for part in told[1]], [int, int])

    def test_ordinary(self):
        self.assert_dealt([10, 6, 3], [6, 6, 6], 1, ([1, 0, 0], (10, 1)))
        self.assert_dealt([10, 6, 3], [6, 6, 6], 2, ([1, 1, 0], (6, 1)))
        self.assert_dealt([10, 6, 3], [6, 6, 6], 3, ([2, 1, 0], (5, 1)))
        self.assert_dealt([10, 6, 3], [6, 6, 6], 4, ([3, 1, 0], (10, 3)))
        self.assert_dealt([10, 6, 3], [6, 6, 6], 5, ([3, 2, 0], (3, 1)))
        self.assert_dealt([10, 6, 3], [6, 6, 6], 6, ([3, 2, 1], (3, 1)))
        self.assert_dealt([3, 10, 6], [6, 6, 6], 4, ([0, 3, 1], (10, 3)))

    def test_ties_go_to_the_least_place(self):
        self.assert_dealt([5, 5, 5], [6, 6, 6], 1, ([1, 0, 0], (5, 1)))
        self.assert_dealt([5, 5, 5], [6, 6, 6], 2, ([1, 1, 0], (5, 1)))
        self.assert_dealt([5, 5, 5], [6, 6, 6], 4, ([2, 1, 1], (5, 2)))
        self.assert_dealt([3, 6], [6, 6], 2, ([1, 1], (3, 1)))
        self.assert_dealt([6, 3], [6, 6], 2, ([2, 0], (3, 1)))
        self.assert_dealt([1, 2, 2], [6, 6, 6], 3, ([1, 1, 1], (1, 1)))
        self.assert_dealt([1] * 6, [6] * 6, 5, ([1, 1, 1, 1, 1, 0], (1, 1)))

    def test_the_divisor_is_in_lowest_terms(self):
        self.assert_dealt([12], [6], 4, ([4], (3, 1)))
        self.assert_dealt([4], [6], 6, ([6], (2, 3)))
        self.assert_dealt([9, 1], [6, 6], 6, ([6, 0], (3, 2)))

    def test_one_weight(self):
        for seats in range(1, 7):
            self.assert_dealt([1], [6], seats, ([seats], (1, seats)))
            self.assert_dealt([1], [2], seats, ([min(seats, 2)], (1, min(seats, 2))))

    def test_caps_of_nought(self):
        for seats in range(1, 7):
            self.assert_dealt([7], [0], seats, ([0], None))
            self.assert_dealt([7, 9], [0, 0], seats, ([0, 0], None))
        self.assert_dealt([70, 1], [0, 6], 3, ([0, 3], (1, 3)))
        self.assert_dealt([70, 1, 2], [0, 6, 1], 2, ([0, 1, 1], (1, 1)))

    def test_caps_that_are_all_reached_before_the_seats_are_dealt(self):
        self.assert_dealt([5, 4], [1, 2], 6, ([1, 2], (2, 1)))
        self.assert_dealt([5, 1, 4], [1, 1, 0], 5, ([1, 1, 0], (1, 1)))
        self.assert_dealt([5, 4], [1, 2], 3, ([1, 2], (2, 1)))

    def test_a_cap_that_is_reached_leaves_the_seats_to_the_others(self):
        self.assert_dealt([100, 2, 1], [1, 6, 6], 4, ([1, 2, 1], (1, 1)))
        self.assert_dealt([100, 2, 1], [2, 1, 6], 6, ([2, 1, 3], (1, 3)))

    def test_great_weights(self):
        self.assert_dealt([MOST, MOST - 1], [6, 6], 2, ([1, 1], (MOST - 1, 1)))
        self.assert_dealt([MOST, MOST // 2], [6, 6], 2, ([2, 0], (MOST // 2, 1)))
        self.assert_dealt([MOST, MOST // 2 + 1], [6, 6], 2, ([1, 1], (MOST // 2 + 1, 1)))
        self.assert_dealt([MOST // 2, MOST], [6, 6], 2, ([1, 1], (MOST // 2, 1)))
        self.assert_dealt([1, MOST], [6, 6], 6, ([0, 6], (MOST // 2, 3)))

    def test_against_the_plain_words(self):
        chance = random.Random(31)
        for number in range(1500):
            weights = some_weights(chance)
            caps = some_caps(chance, weights)
            for seats in range(1, 7):
                self.assert_dealt(weights, caps, seats, plain_dealt(weights, caps, seats))

    def test_the_divisor_parts_those_with_seats_from_one_more(self):
        chance = random.Random(32)
        for number in range(600):
            weights = some_weights(chance)
            caps = some_caps(chance, weights)
            for seats in range(1, 7):
                counts, divisor = dealt(weights, caps, seats)
                self.assertEqual(sum(counts), min(seats, sum(caps)))
                self.assertEqual(divisor is None, sum(counts) == 0)
                for weight, cap, count in zip(weights, caps, counts):
                    self.assertLessEqual(count, cap)
                    if count > 0:
                        self.assertGreaterEqual(Fraction(weight, count), fraction(divisor))
                    if divisor is not None and count < cap:
                        self.assertLessEqual(Fraction(weight, count + 1), fraction(divisor))

    def test_more_seats_never_give_a_place_fewer(self):
        chance = random.Random(33)
        for number in range(600):
            weights = some_weights(chance)
            caps = some_caps(chance, weights)
            fewer = [0] * len(weights)
            for seats in range(1, 7):
                counts = dealt(weights, caps, seats)[0]
                self.assertTrue(all(one <= other for one, other in zip(fewer, counts)))
                self.assertLessEqual(sum(counts) - sum(fewer), 1)
                fewer = counts

    def test_what_is_told_is_the_askers_own(self):
        weights, caps = [4, 3], [2, 0]
        told = dealt(weights, caps, 3)
        self.assertEqual(told, ([2, 0], (2, 1)))
        told[0].append(5)
        told[0][0] = 9
        self.assertEqual((weights, caps), ([4, 3], [2, 0]))
        again = dealt(weights, caps, 3)
        self.assertEqual(again, ([2, 0], (2, 1)))
        weights.append(1)
        caps[0] = 6
        self.assertEqual(again, ([2, 0], (2, 1)))


class ListsInARow(unittest.TestCase):
    def row_heap(self, chance):
        """Piles that like candidates of their own, the first pile the least ones; some candidates perhaps nobody."""
        some = sorted(chance.sample(ALL_SIX, chance.randrange(1, 7)))
        ends = sorted(chance.sample(range(1, len(some)), chance.randrange(len(some))))
        heaviest = chance.choice([1, 3, 12, MOST])
        parts = zip([0] + ends, ends + [len(some)])
        return [(chance.randrange(1, heaviest + 1), some[start:end]) for start, end in parts]

    def test_the_growths_bench_has_as_many_as_are_dealt(self):
        chance = random.Random(34)
        sizes = set()
        for number in range(600):
            heap = self.row_heap(chance)
            sizes.add(len(heap))
            self.assertTrue(is_lists(heap))
            weights, caps = [weight for weight, marks in heap], [len(marks) for weight, marks in heap]
            for seats in range(1, 7):
                chosen = [row[0] for row in growth(heap, seats)]
                counts = [len([candidate for candidate in chosen if candidate in marks]) for weight, marks in heap]
                self.assertEqual(counts, dealt(weights, caps, seats)[0])
        self.assertEqual(sizes, {1, 2, 3, 4, 5, 6})

    def test_like_weights(self):
        heap = [(5, [0, 1, 2]), (5, [3, 4]), (5, [5])]
        self.assertEqual([row[0] for row in growth(heap, 6)], [0, 3, 5, 1, 4, 2])
        self.assertEqual(dealt([5, 5, 5], [3, 2, 1], 4)[0], [2, 1, 1])
        self.assertEqual(dealt([5, 5, 5], [3, 2, 1], 6)[0], [3, 2, 1])


if __name__ == "__main__":
    unittest.main()
