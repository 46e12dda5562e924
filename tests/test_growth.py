"""Promises [2], [3], [15] and [16]: waits and growth."""

import copy
import random
import unittest
from fractions import Fraction

from pursebench.groups import passed_over
from pursebench.growth import grown, growth, wait
from samples import (ALL_SIX, MOST, fraction, great_heaps, liked_by_some, long_purses, nobody_passed_over, pair_of,
                     pairs_of, purses_for, small_heaps, twins)


def plain_wait(heap, purses, candidate):
    whole = sum(pile[0] for pile in heap)
    fans = [place for place, pile in enumerate(heap) if candidate in pile[1]]
    have = sum(heap[place][0] * fraction(purses[place]) for place in fans)
    return max(Fraction(0), (whole - have) / sum(heap[place][0] for place in fans))


class Kinds(unittest.TestCase):
    def assert_fraction(self, told):
        self.assertIs(type(told), tuple)
        self.assertEqual([type(part) for part in told], [int, int])
        self.assertGreaterEqual(told[1], 1)
        self.assertGreaterEqual(told[0], 0)
        self.assertEqual(told, pair_of(fraction(told)))

    def assert_row(self, row, heap):
        self.assertIs(type(row), tuple)
        self.assertEqual([type(part) for part in row], [int, tuple, list])
        self.assert_fraction(row[1])
        self.assertEqual(len(row[2]), len(heap))
        for purse in row[2]:
            self.assert_fraction(purse)


class Wait(Kinds):
    def assert_wait(self, heap, purses, candidate, wanted):
        heap_before, purses_before = copy.deepcopy(heap), list(purses)
        told = wait(heap, purses, candidate)
        self.assertEqual(told, wanted)
        self.assert_fraction(told)
        self.assertEqual((heap, purses), (heap_before, purses_before))

    def test_empty_purses(self):
        heap = [(2, [0]), (3, [0, 1]), (1, [])]
        self.assert_wait(heap, pairs_of([0, 0, 0]), 0, (6, 5))
        self.assert_wait(heap, pairs_of([0, 0, 0]), 1, (2, 1))
        self.assert_wait([(5, [3])], pairs_of([0]), 3, (1, 1))

    def test_purses_with_something(self):
        heap = [(2, [0]), (3, [0, 1]), (1, [])]
        self.assert_wait(heap, pairs_of([1, Fraction(1, 2), 9]), 0, (1, 2))
        self.assert_wait(heap, pairs_of([1, Fraction(1, 2), 9]), 1, (3, 2))

    def test_as_much_or_more_already(self):
        heap = [(2, [0]), (3, [0, 1]), (1, [])]
        self.assert_wait(heap, pairs_of([0, 2, 0]), 0, (0, 1))
        self.assert_wait(heap, pairs_of([0, 2, 0]), 1, (0, 1))
        self.assert_wait(heap, pairs_of([Fraction(3, 2), 1, 0]), 0, (0, 1))
        self.assert_wait(heap, pairs_of([3, 3, 3]), 0, (0, 1))
        self.assert_wait(heap, [(0, 1), (2 * MOST - 1, MOST), (0, 1)], 1, (1, MOST))
        self.assert_wait(heap, [(0, 1), (2 * MOST + 1, MOST), (0, 1)], 1, (0, 1))

    def test_great_weights(self):
        self.assert_wait([(MOST, [0]), (MOST - 1, [1])], pairs_of([0, 0]), 0, (2 * MOST - 1, MOST))
        self.assert_wait([(1, [0]), (MOST, [1])], pairs_of([0, 0]), 0, (MOST + 1, 1))
        self.assert_wait([(MOST, [0])] * 12, pairs_of([Fraction(1, 3)] * 12), 0, (2, 3))

    def test_against_the_plain_words(self):
        chance = random.Random(21)
        noughts = 0
        for heap in small_heaps(151, 300) + great_heaps(152, 60):
            purses = purses_for(chance, heap)
            for candidate in liked_by_some(heap):
                wanted = pair_of(plain_wait(heap, purses, candidate))
                noughts += wanted == (0, 1)
                self.assert_wait(heap, purses, candidate, wanted)
        self.assertGreater(noughts, 100)

    def test_purses_of_four_hundred_figures(self):
        chance = random.Random(22)
        heap = [(chance.randrange(1, MOST), [0] if place % 3 else [1]) for place in range(12)]
        purses = long_purses(chance, heap)
        for candidate in [0, 1]:
            self.assert_wait(heap, purses, candidate, pair_of(plain_wait(heap, purses, candidate)))


class Grown(Kinds):
    def assert_shown(self, heap, purses, members, seats):
        """Each row by sums alone, and that it ends where the seats are filled or nobody is left."""
        before = copy.deepcopy((heap, purses, members))
        told = grown(heap, purses, members, seats)
        self.assertEqual((heap, purses, members), before)
        self.assertIs(type(told), list)
        bench = list(members)
        for row in told:
            self.assert_row(row, heap)
            self.assertLess(len(bench), seats)
            left = [candidate for candidate in liked_by_some(heap) if candidate not in bench]
            offers = [(plain_wait(heap, purses, candidate), candidate) for candidate in left]
            self.assertEqual((fraction(row[1]), row[0]), min(offers))
            purses = pairs_of([0 if row[0] in pile[1] else fraction(purse) + fraction(row[1])
                               for pile, purse in zip(heap, purses)])
            self.assertEqual(row[2], purses)
            bench.append(row[0])
        self.assertTrue(len(bench) >= seats or set(liked_by_some(heap)) <= set(bench))
        return told

    def test_ordinary(self):
        heap = [(3, [0, 1]), (1, [1, 2]), (2, [3])]
        self.assertEqual(growth(heap, 4), [
            (1, (3, 2), pairs_of([0, 0, Fraction(3, 2)])),
            (3, (3, 2), pairs_of([Fraction(3, 2), Fraction(3, 2), 0])),
            (0, (1, 2), pairs_of([0, 2, Fraction(1, 2)])),
            (2, (4, 1), pairs_of([4, 0, Fraction(9, 2)]))])

    def test_purses_that_are_not_nought_at_first(self):
        heap = [(1, [0]), (1, [1]), (2, [2])]
        self.assertEqual(grown(heap, pairs_of([5, 4, Fraction(1, 2)]), [], 6), [
            (0, (0, 1), pairs_of([0, 4, Fraction(1, 2)])),
            (1, (0, 1), pairs_of([0, 0, Fraction(1, 2)])),
            (2, (3, 2), pairs_of([Fraction(3, 2), Fraction(3, 2), 0]))])

    def test_ties_go_to_the_least_number(self):
        heap = [(1, [3, 5]), (1, [1, 4])]
        self.assertEqual([row[:2] for row in growth(heap, 4)], [(1, (2, 1)), (3, (0, 1)), (4, (2, 1)), (5, (0, 1))])
        self.assertEqual([row[0] for row in growth(heap[::-1], 4)], [1, 3, 4, 5])
        # Both have more than enough; that one has more still doesn't count.
        self.assertEqual([row[:2] for row in grown([(1, [2]), (1, [3])], pairs_of([2, 9]), [], 1)], [(2, (0, 1))])

    def test_a_bench_that_is_full_or_more(self):
        heap = [(1, [0, 1, 2]), (2, [3, 4])]
        for members, seats in [([0], 1), ([0, 4], 2), ([0, 4], 1), ([5], 1), ([1, 2, 5], 3), (ALL_SIX, 6),
                               (ALL_SIX, 2)]:
            self.assertEqual(grown(heap, pairs_of([6, 6]), members, seats), [])

    def test_a_bench_with_members(self):
        heap = [(1, [0, 1]), (2, [2])]
        told = self.assert_shown(heap, pairs_of([0, 0]), [2], 2)
        self.assertEqual(told, [(0, (3, 1), pairs_of([0, 3]))])
        # A member whom nobody likes has a seat too.
        self.assertEqual([row[0] for row in grown(heap, pairs_of([0, 0]), [2, 5], 3)], [0])
        self.assertEqual([row[0] for row in grown(heap, pairs_of([0, 0]), [5], 6)], [2, 0, 1])

    def test_candidates_whom_nobody_likes(self):
        for seats in range(1, 7):
            self.assertEqual(growth([], seats), [])
            self.assertEqual(grown([], [], [3], seats), [])
            self.assertEqual(growth([(5, []), (2, [])], seats), [])
            self.assertEqual([row[0] for row in growth([(5, []), (2, [4])], seats)], [4])
        self.assertEqual(growth([(5, []), (2, [4])], 6), [(4, (7, 2), pairs_of([Fraction(7, 2), 0]))])

    def test_each_row_is_shown_by_sums(self):
        chance = random.Random(23)
        for heap in small_heaps(161, 200) + great_heaps(162, 40):
            for seats in [1, 3, 6]:
                members = sorted(chance.sample(range(6), chance.randrange(4)))
                self.assert_shown(heap, purses_for(chance, heap), members, seats)
                told = self.assert_shown(heap, pairs_of([0] * len(heap)), [], seats)
                self.assertEqual(growth(heap, seats), told)

    def test_purses_of_four_hundred_figures(self):
        chance = random.Random(24)
        heap = [(chance.randrange(1, MOST), marks) for marks in [[0], [1, 2], [0, 2], [3]]]
        purses = long_purses(chance, heap)
        self.assertEqual(len(self.assert_shown(heap, purses, [], 6)), 4)

    def test_fewer_seats_are_the_beginning(self):
        for heap in small_heaps(163, 150) + great_heaps(164, 40):
            told = growth(heap, 6)
            self.assertEqual(len(told), len(liked_by_some(heap)))
            for seats in range(1, 6):
                self.assertEqual(growth(heap, seats), told[:seats])

    def test_it_goes_on_from_the_purses_and_the_bench_behind_some_rows(self):
        for heap in small_heaps(165, 150) + great_heaps(166, 40):
            for seats in [3, 6]:
                told = growth(heap, seats)
                for many in range(1, len(told) + 1):
                    members = sorted(row[0] for row in told[:many])
                    self.assertEqual(grown(heap, told[many - 1][2], members, seats), told[many:])

    def test_its_bench_passes_no_group_over(self):
        for heap in small_heaps(167, 150, 4):
            for seats in [1, 2, 3, 4, 6]:
                members = sorted(row[0] for row in growth(heap, seats))
                self.assertTrue(nobody_passed_over(heap, seats, members))
        for heap in great_heaps(168, 60):
            for seats in range(1, 7):
                self.assertIsNone(passed_over(heap, seats, sorted(row[0] for row in growth(heap, seats))))

    def test_the_heap_alone_counts(self):
        for heap in small_heaps(169, 150) + great_heaps(170, 40):
            told = [row[:2] for row in growth(heap, 6)]
            for twin in twins(heap):
                self.assertEqual([row[:2] for row in growth(twin, 6)], told)
            for row, turned in zip(growth(heap, 6), growth(heap[::-1], 6)):
                self.assertEqual(row[2], turned[2][::-1])

    def test_from_other_purses_too_the_heap_alone_counts(self):
        chance = random.Random(25)
        for heap in [heap for heap in small_heaps(171, 100) if heap]:
            purses = purses_for(chance, heap)
            told = [row[:2] for row in grown(heap, purses, [1], 5)]
            multiplied = [(3 * weight, marks) for weight, marks in heap]
            self.assertEqual([row[:2] for row in grown(heap[::-1], purses[::-1], [1], 5)], told)
            self.assertEqual([row[:2] for row in grown(multiplied, purses, [1], 5)], told)
            weight, marks = heap[0]
            if weight > 1:
                parted = [(1, list(marks)), (weight - 1, list(marks))] + heap[1:]
                self.assertEqual([row[:2] for row in grown(parted, purses[:1] + purses, [1], 5)], told)

    def test_what_is_told_is_the_askers_own(self):
        for heap in small_heaps(172, 60) + [[(3, [0, 1]), (1, [1, 2]), (2, [3])]]:
            heap_before, purses, members = copy.deepcopy(heap), pairs_of([1] * len(heap)), [5]
            for ask in [lambda: grown(heap, purses, members, 5), lambda: growth(heap, 5)]:
                told = ask()
                kept = copy.deepcopy(told)
                for row in told:
                    row[2].append((9, 1))
                    row[2][0] = (99, 1)
                self.assertEqual([len(row[2]) for row in told], [len(heap) + 1] * len(told))
                told.clear()
                self.assertEqual((heap, purses, members), (heap_before, pairs_of([1] * len(heap)), [5]))
                self.assertEqual(ask(), kept)

    def test_what_is_done_behind_the_call_changes_nothing(self):
        heap, purses, members = [(1, [0]), (1, [1])], pairs_of([1, 0]), [5]
        told = grown(heap, purses, members, 3)
        kept = copy.deepcopy(told)
        heap[0][1].append(4)
        heap.append((3, [4]))
        purses.append((7, 1))
        purses[0] = (8, 1)
        members.append(6)
        self.assertEqual(told, kept)


if __name__ == "__main__":
    unittest.main()
