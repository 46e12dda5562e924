"""Promises [2], [3] and [17]: the bench, by rounds and then by growth."""

import copy
import unittest
from fractions import Fraction

import samples
from pursebench.benches import bench
from pursebench.groups import left_out
from pursebench.growth import grown
from pursebench.purses import rounds
from samples import ALL_SIX, MOST, fraction, great_heaps, liked_by_some, pair_of, pairs_of, small_heaps, twins, wronged


def heads(told):
    """The members, and the rows without the purses, which hang on how the piles lie."""
    return (told[0], [row[:2] for row in told[1]], [row[:2] for row in told[2]])


def spoil(told):
    """Changes every list that was told."""
    for row in told[1] + told[2]:
        row[2].append((9, 1))
        row[2][0] = (99, 1)
    for part in told:
        part.clear()
        part.append("spoiled")


class Bench(unittest.TestCase):
    def assert_fraction(self, told):
        self.assertIs(type(told), tuple)
        self.assertEqual([type(part) for part in told], [int, int])
        self.assertEqual(told, pair_of(fraction(told)))

    def assert_kinds(self, told, heap):
        self.assertIs(type(told), tuple)
        self.assertEqual([type(part) for part in told], [list, list, list])
        self.assertEqual(told[0], sorted(set(told[0])))
        for row in told[1] + told[2]:
            self.assertIs(type(row), tuple)
            self.assertEqual([type(part) for part in row], [int, tuple, list])
            self.assertEqual(len(row[2]), len(heap))
            for number in [row[1]] + row[2]:
                self.assert_fraction(number)

    def assert_bench(self, heap, seats):
        """The three parts hang together as the point says."""
        before = copy.deepcopy(heap)
        told = bench(heap, seats)
        self.assertEqual(heap, before)
        self.assert_kinds(told, heap)
        members, bought, added = told
        self.assertEqual(bought, rounds(heap, seats))
        purses = bought[-1][2] if bought else pairs_of([seats] * len(heap))
        chosen = [row[0] for row in bought]
        self.assertEqual(added, grown(heap, purses, sorted(chosen), seats))
        self.assertEqual(members, sorted(chosen + [row[0] for row in added]))
        if len(members) != seats:
            self.assertLess(len(members), seats)
            self.assertEqual(members, liked_by_some(heap))

    def test_ordinary(self):
        heap = [(3, [0, 1]), (1, [1, 2]), (2, [3])]
        self.assertEqual(bench(heap, 3), (
            [0, 1, 3],
            [(1, (3, 2), pairs_of([Fraction(3, 2), Fraction(3, 2), 3])),
             (3, (3, 1), pairs_of([Fraction(3, 2), Fraction(3, 2), 0]))],
            [(0, (1, 2), pairs_of([0, 2, Fraction(1, 2)]))]))

    def test_where_there_are_no_rounds_each_purse_is_the_number_of_seats(self):
        self.assertEqual(bench([(5, []), (2, [4])], 3), ([4], [], [(4, (1, 2), pairs_of([Fraction(7, 2), 0]))]))
        self.assertEqual(bench([(3, [1]), (3, [2]), (3, [5])], 2), (
            [1, 2], [], [(1, (1, 1), pairs_of([0, 3, 3])), (2, (0, 1), pairs_of([0, 0, 3]))]))

    def test_no_piles_and_piles_without_marks(self):
        for seats in range(1, 7):
            self.assertEqual(bench([], seats), ([], [], []))
            self.assertEqual(bench([(MOST, [])], seats), ([], [], []))
            self.assertEqual(bench([(5, []), (2, [])], seats), ([], [], []))

    def test_fewer_liked_candidates_than_seats(self):
        self.assertEqual(bench([(1, [2]), (1, [5])], 6), (
            [2, 5], [(2, (2, 1), pairs_of([4, 6])), (5, (2, 1), pairs_of([4, 4]))], []))
        told = bench([(98, [3]), (1, [0]), (1, [])], 6)
        self.assertEqual((told[0], [row[0] for row in told[1]], [row[0] for row in told[2]]), ([0, 3], [3], [0]))

    def test_rounds_that_fill_all_seats(self):
        for seats in range(1, 7):
            told = bench([(5, ALL_SIX)], seats)
            self.assertEqual(told[0], ALL_SIX[:seats])
            self.assertEqual([row[:2] for row in told[1]], [(candidate, (1, 1)) for candidate in ALL_SIX[:seats]])
            self.assertEqual(told[2], [])
        self.assertEqual(heads(bench([(1, [4, 5]), (1, [0, 3])], 2)), ([0, 4], [(0, (2, 1)), (4, (2, 1))], []))

    def test_members_rise_though_they_were_chosen_in_another_order(self):
        told = bench([(3, [5]), (2, [3]), (1, [0])], 3)
        self.assertEqual(told[0], [0, 3, 5])
        self.assertEqual([row[0] for row in told[1]], [5, 3])
        self.assertEqual([row[0] for row in told[2]], [0])

    def test_the_parts_hang_together(self):
        for heap in small_heaps(201, 200) + great_heaps(202, 40):
            for seats in range(1, 7):
                self.assert_bench(heap, seats)

    def test_as_many_members_as_seats_or_all_whom_anybody_likes(self):
        filled, short = 0, 0
        for heap in small_heaps(203, 200) + great_heaps(204, 40):
            for seats in range(1, 7):
                members = bench(heap, seats)[0]
                self.assertEqual(len(members), min(seats, len(liked_by_some(heap))))
                self.assertLessEqual(set(members), set(liked_by_some(heap)))
                filled += len(members) == seats
                short += len(members) < seats
        self.assertGreater(min(filled, short), 100)

    def test_no_group_is_left_out(self):
        for heap in small_heaps(205, 150, 4):
            for seats in range(1, 7):
                self.assertEqual(wronged(heap, seats, bench(heap, seats)[0], samples.is_left_out), [])
        for heap in great_heaps(206, 60):
            for seats in range(1, 7):
                self.assertIsNone(left_out(heap, seats, bench(heap, seats)[0]))

    def test_claims_that_are_just_enough(self):
        # Two thirds claim two of three seats, and a third the last one.
        self.assertEqual(bench([(2, [3, 4, 5]), (1, [0, 1, 2])], 3)[0], [0, 3, 4])
        self.assertEqual(bench([(2 * (MOST // 3), [3, 4, 5]), (MOST // 3, [0, 1, 2])], 3)[0], [0, 3, 4])
        for seats in range(1, 7):
            heap = [(1, [candidate]) for candidate in range(seats)]
            self.assertEqual(bench(heap, seats)[0], ALL_SIX[:seats])

    def test_the_heap_alone_counts(self):
        for heap in small_heaps(207, 150) + great_heaps(208, 30):
            for seats in [1, 2, 3, 4, 6]:
                told = bench(heap, seats)
                for twin in twins(heap):
                    self.assertEqual(heads(bench(twin, seats)), heads(told))
                turned = bench(heap[::-1], seats)
                for row, other in zip(told[1] + told[2], turned[1] + turned[2]):
                    self.assertEqual(row[2], other[2][::-1])
                # One number for all weights leaves the purses too as they are.
                self.assertEqual(bench([(11 * weight, marks) for weight, marks in heap], seats), told)

    def test_a_pile_cut_in_two_has_its_purse_twice(self):
        for heap in [heap for heap in small_heaps(209, 150) if heap and heap[0][0] > 1]:
            told = bench(heap, 5)
            weight, marks = heap[0]
            parted = bench([(1, list(marks)), (weight - 1, list(marks))] + heap[1:], 5)
            self.assertEqual(heads(parted), heads(told))
            for row, other in zip(told[1] + told[2], parted[1] + parted[2]):
                self.assertEqual(other[2], row[2][:1] + row[2])

    def test_twelve_piles_of_the_greatest_weights(self):
        heap = [(MOST - place, [place % 6, (place + 1) % 6]) for place in range(12)]
        heap = [(weight, sorted(marks)) for weight, marks in heap]
        for seats in range(1, 7):
            self.assert_bench(heap, seats)
            self.assertIsNone(left_out(heap, seats, bench(heap, seats)[0]))

    def test_what_is_told_is_the_askers_own(self):
        for heap in small_heaps(210, 80) + [[(3, [0, 1]), (1, [1, 2]), (2, [3])], [(1, [2]), (1, [5])]]:
            before = copy.deepcopy(heap)
            for seats in [1, 3, 6]:
                told = bench(heap, seats)
                kept = copy.deepcopy(told)
                lists = [told[0], told[1], told[2]] + [row[2] for row in told[1] + told[2]]
                lists.extend(marks for weight, marks in heap)
                self.assertEqual(len({id(part) for part in lists}), len(lists))
                spoil(told)
                self.assertEqual(heap, before)
                self.assertEqual(bench(heap, seats), kept)

    def test_what_is_done_behind_the_call_changes_nothing(self):
        heap = [(3, [0, 1]), (1, [1, 2]), (2, [3])]
        told = bench(heap, 3)
        kept = copy.deepcopy(told)
        heap[0][1].append(4)
        heap.append((3, [4]))
        heap[1] = (9, [5])
        self.assertEqual(told, kept)


if __name__ == "__main__":
    unittest.main()
