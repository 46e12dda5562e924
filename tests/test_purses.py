"""Promises [2], [3], [11], [12], and what [17] and [19] say of the rounds: rates, payments and rounds."""

import copy
import random
import unittest
from fractions import Fraction

import samples
from pursebench.groups import left_out
from pursebench.purses import paid, rate, rounds
from samples import (MOST, choices_of, fraction, great_heaps, long_purses, pair_of, pairs_of, purses_for, small_heaps,
                     twins, wronged)


def fans(heap, candidate):
    return [place for place, pile in enumerate(heap) if candidate in pile[1]]


def come_to(heap, purses, candidate, due):
    return sum(heap[place][0] * min(fraction(purses[place]), due) for place in fans(heap, candidate))


def plain_rate(heap, purses, candidate, price):
    """By trying for each part of the likers whether these pay all that they have, and the others the rate."""
    places = fans(heap, candidate)
    found = []
    for poor in choices_of(places)[:-1] if places else []:
        rest = price - sum(heap[place][0] * fraction(purses[place]) for place in poor)
        due = rest / Fraction(sum(heap[place][0] for place in places if place not in poor))
        if (all(fraction(purses[place]) < due for place in poor)
                and all(fraction(purses[place]) >= due for place in places if place not in poor)):
            found.append(due)
    return min(found) if found else None


class Kinds(unittest.TestCase):
    def assert_fraction(self, told):
        self.assertIs(type(told), tuple)
        self.assertEqual([type(part) for part in told], [int, int])
        self.assertGreaterEqual(told[1], 1)
        self.assertEqual(told, pair_of(fraction(told)))

    def assert_purses(self, told, heap):
        self.assertIs(type(told), list)
        self.assertEqual(len(told), len(heap))
        for purse in told:
            self.assert_fraction(purse)
            self.assertGreaterEqual(purse[0], 0)


class Rate(Kinds):
    def assert_rate(self, heap, purses, candidate, price, wanted):
        heap_before, purses_before = copy.deepcopy(heap), list(purses)
        told = rate(heap, purses, candidate, price)
        self.assertEqual(told, wanted)
        if told is not None:
            self.assert_fraction(told)
        self.assertEqual((heap, purses), (heap_before, purses_before))

    def test_like_purses(self):
        heap = [(2, [0]), (3, [0, 1]), (1, [1])]
        purses = pairs_of([2, 2, 2])
        self.assert_rate(heap, purses, 0, 6, (6, 5))
        self.assert_rate(heap, purses, 1, 6, (3, 2))
        self.assert_rate(heap, purses, 0, 5, (1, 1))
        self.assert_rate(heap, purses, 0, 1, (1, 5))

    def test_some_pay_all_and_others_the_rate(self):
        heap = [(1, [0]), (1, [0]), (1, [0])]
        purses = pairs_of([Fraction(1, 2), 3, 1])
        self.assert_rate(heap, purses, 0, 1, (1, 3))
        self.assert_rate(heap, purses, 0, 2, (3, 4))
        self.assert_rate(heap, purses, 0, 3, (3, 2))
        self.assert_rate(heap, purses, 0, 4, (5, 2))
        # The last one's place has no say in it.
        self.assert_rate(heap, purses[::-1], 0, 3, (3, 2))
        self.assert_rate([(2, [0]), (4, [0])], pairs_of([5, Fraction(1, 3)]), 0, 9, (23, 6))

    def test_just_the_price_and_too_little(self):
        heap = [(2, [3]), (3, [3, 4]), (9, [4])]
        purses = pairs_of([Fraction(1, 2), Fraction(4, 3), 7])
        self.assert_rate(heap, purses, 3, 5, (4, 3))
        self.assert_rate(heap, purses, 3, 6, None)
        self.assert_rate(heap, purses, 4, 67, (7, 1))
        self.assert_rate(heap, purses, 4, 68, None)
        self.assert_rate([(1, [0])], [(MOST - 1, MOST)], 0, 1, None)
        self.assert_rate([(1, [0])], [(MOST + 1, MOST)], 0, 1, (1, 1))

    def test_purses_at_the_rate_itself(self):
        self.assert_rate([(1, [0]), (1, [0])], pairs_of([1, 5]), 0, 2, (1, 1))
        self.assert_rate([(1, [0]), (1, [0])], pairs_of([1, 1]), 0, 2, (1, 1))
        self.assert_rate([(1, [0]), (3, [0]), (1, [0])], pairs_of([1, 2, 2]), 0, 9, (2, 1))

    def test_purses_of_nought(self):
        heap = [(1, [0]), (5, [0]), (2, [1])]
        self.assert_rate(heap, pairs_of([0, 0, 9]), 0, 1, None)
        self.assert_rate(heap, pairs_of([3, 0, 9]), 0, 2, (2, 1))
        self.assert_rate(heap, pairs_of([0, 3, 9]), 0, 2, (2, 5))

    def test_nobody_likes_the_candidate(self):
        self.assert_rate([(9, [0]), (9, [])], pairs_of([6, 6]), 1, 1, None)
        self.assert_rate([], [], 1, 1, None)

    def test_against_the_plain_words(self):
        chance = random.Random(11)
        told = 0
        for heap in small_heaps(111, 400):
            purses = purses_for(chance, heap)
            for candidate in range(6):
                for price in [1, 2, 3, 5, 8, 13]:
                    wanted = plain_rate(heap, purses, candidate, price)
                    told += wanted is not None
                    enough = sum(heap[place][0] * fraction(purses[place]) for place in fans(heap, candidate)) >= price
                    self.assertEqual(enough, wanted is not None)
                    self.assert_rate(heap, purses, candidate, price, None if wanted is None else pair_of(wanted))
        self.assertGreater(told, 1000)

    def assert_fits(self, heap, purses, candidate, price):
        due = rate(heap, purses, candidate, price)
        places = fans(heap, candidate)
        if sum(heap[place][0] * fraction(purses[place]) for place in places) < price:
            self.assertIsNone(due)
            return
        self.assert_fraction(due)
        self.assertEqual(come_to(heap, purses, candidate, fraction(due)), price)
        # Up to the greatest purse the sum rises with the rate, so there is no lesser one.
        self.assertLessEqual(fraction(due), max(fraction(purses[place]) for place in places))

    def test_great_weights_and_prices(self):
        chance = random.Random(12)
        for heap in great_heaps(112, 100):
            purses = [pair_of(Fraction(chance.randrange(10 ** 6), chance.randrange(1, 10 ** 5))) for pile in heap]
            for candidate in range(6):
                for price in [1, 10 ** 20, 10 ** 21 + 1, 10 ** 22]:
                    self.assert_fits(heap, purses, candidate, price)
        self.assert_rate([(MOST, [0])], [(100, 1)], 0, 10 ** 22, (100, 1))
        self.assert_rate([(MOST - 1, [0])], [(100, 1)], 0, 10 ** 22, None)
        self.assert_rate([(MOST, [0])], [(101, 1)], 0, 10 ** 22, (100, 1))

    def test_purses_of_four_hundred_figures(self):
        chance = random.Random(13)
        heap = [(chance.randrange(1, MOST), [0]) for place in range(12)]
        purses = long_purses(chance, heap)
        for price in [1, 10 ** 17, 10 ** 18, 10 ** 20, 10 ** 22]:
            self.assert_fits(heap, purses, 0, price)


class Paid(Kinds):
    def test_ordinary(self):
        heap = [(1, [0]), (7, [1]), (1, [0, 1]), (1, [0]), (2, [])]
        purses = pairs_of([Fraction(1, 2), 3, 2, Fraction(5, 6), Fraction(1, 7)])
        told = paid(heap, purses, 0, (5, 6))
        self.assertEqual(told, pairs_of([0, 3, Fraction(7, 6), 0, Fraction(1, 7)]))
        self.assert_purses(told, heap)
        self.assertEqual(paid(heap, purses, 0, (1, 2)),
                         pairs_of([0, 3, Fraction(3, 2), Fraction(1, 3), Fraction(1, 7)]))
        self.assertEqual(paid(heap, purses, 0, (100, 1)), pairs_of([0, 3, 0, 0, Fraction(1, 7)]))

    def test_nobody_likes_the_candidate(self):
        purses = pairs_of([1, 2])
        self.assertEqual(paid([(1, [0]), (1, [])], purses, 5, (1, 1)), purses)
        self.assertEqual(paid([], [], 5, (1, 1)), [])

    def test_against_the_plain_words(self):
        chance = random.Random(14)
        for heap in small_heaps(114, 200) + great_heaps(115, 50):
            purses = purses_for(chance, heap)
            for candidate in range(6):
                due = Fraction(chance.randrange(1, 9), chance.choice([1, 2, 3, 6]))
                told = paid(heap, purses, candidate, pair_of(due))
                wanted = [fraction(purse) - min(fraction(purse), due) if candidate in pile[1] else fraction(purse)
                          for pile, purse in zip(heap, purses)]
                self.assertEqual(told, pairs_of(wanted))
                self.assert_purses(told, heap)

    def test_a_new_list(self):
        heap, purses = [(1, [0]), (2, [1])], pairs_of([3, 3])
        for candidate in [0, 1, 2]:
            told = paid(heap, purses, candidate, (1, 1))
            told.append((9, 1))
            told[0] = (7, 1)
            self.assertEqual((heap, purses), ([(1, [0]), (2, [1])], pairs_of([3, 3])))
        told = paid(heap, purses, 0, (1, 1))
        purses[1] = (8, 1)
        self.assertEqual(told, pairs_of([2, 3]))


class Rounds(Kinds):
    def assert_shown(self, heap, seats):
        """Each row by sums alone, and that behind the last one nobody can be bought."""
        told = rounds(heap, seats)
        self.assertIs(type(told), list)
        self.assertLessEqual(len(told), seats)
        price = sum(pile[0] for pile in heap)
        purses = [(seats, 1) for pile in heap]
        left = [candidate for candidate in range(6) if fans(heap, candidate)]
        for row in told:
            self.assertIs(type(row), tuple)
            candidate, due, behind = row
            self.assertIs(type(candidate), int)
            self.assert_fraction(due)
            self.assert_purses(behind, heap)
            self.assertIn(candidate, left)
            self.assertEqual(come_to(heap, purses, candidate, fraction(due)), price)
            offers = [(plain_rate(heap, purses, other, price), other) for other in left]
            self.assertEqual((fraction(due), candidate), min(offer for offer in offers if offer[0] is not None))
            wanted = [fraction(purse) - (min(fraction(purse), fraction(due)) if candidate in pile[1] else 0)
                      for pile, purse in zip(heap, purses)]
            self.assertEqual(behind, pairs_of(wanted))
            left.remove(candidate)
            purses = behind
        for other in left:
            self.assertLess(come_to(heap, purses, other, Fraction(seats)), price)
        return told

    def test_ordinary(self):
        heap = [(3, [0, 1]), (1, [1, 2]), (2, [3])]
        self.assertEqual(rounds(heap, 3), [
            (1, (3, 2), pairs_of([Fraction(3, 2), Fraction(3, 2), 3])),
            (3, (3, 1), pairs_of([Fraction(3, 2), Fraction(3, 2), 0]))])
        self.assertEqual(rounds(heap, 4), [
            (1, (3, 2), pairs_of([Fraction(5, 2), Fraction(5, 2), 4])),
            (0, (2, 1), pairs_of([Fraction(1, 2), Fraction(5, 2), 4])),
            (3, (3, 1), pairs_of([Fraction(1, 2), Fraction(5, 2), 1]))])

    def test_some_pay_all_that_they_have(self):
        heap = [(1, [0, 1]), (3, [0]), (2, [1])]
        self.assertEqual(rounds(heap, 3), [
            (0, (3, 2), pairs_of([Fraction(3, 2), Fraction(3, 2), 3])),
            (1, (9, 4), pairs_of([0, Fraction(3, 2), Fraction(3, 4)]))])

    def test_ties_go_to_the_least_number(self):
        heap = [(1, [2, 4]), (1, [1, 3])]
        self.assertEqual([row[:2] for row in rounds(heap, 4)], [(1, (2, 1)), (2, (2, 1)), (3, (2, 1)), (4, (2, 1))])
        self.assertEqual([row[:2] for row in rounds([(5, [0, 1, 2, 3, 4, 5])], 4)],
                         [(candidate, (1, 1)) for candidate in range(4)])
        self.assertEqual([row[0] for row in rounds(heap[::-1], 4)], [1, 2, 3, 4])

    def test_no_piles_and_piles_without_marks(self):
        for seats in range(1, 7):
            self.assertEqual(rounds([], seats), [])
            self.assertEqual(rounds([(5, []), (2, [])], seats), [])
        self.assertEqual(rounds([(5, []), (2, [4])], 3), [])
        self.assertEqual(rounds([(5, []), (5, [4])], 2), [(4, (2, 1), pairs_of([2, 0]))])

    def test_each_row_is_shown_by_sums(self):
        for heap in small_heaps(121, 150):
            for seats in range(1, 7):
                self.assert_shown(heap, seats)

    def test_great_weights(self):
        for heap in great_heaps(122, 40):
            self.assert_shown(heap[:6], 6)
        heap = [(MOST, [0, 1]), (MOST - 1, [1, 2]), (1, [2, 3])] * 4
        told = rounds(heap, 6)
        self.assertEqual([row[0] for row in told], [1, 0, 2])
        self.assertLessEqual(len(told), 6)

    def test_the_heap_alone_counts(self):
        for heap in small_heaps(123, 150) + great_heaps(124, 40):
            for seats in [1, 3, 6]:
                told = [row[:2] for row in rounds(heap, seats)]
                for twin in twins(heap):
                    self.assertEqual([row[:2] for row in rounds(twin, seats)], told)

    def test_purses_go_with_their_piles(self):
        for heap in small_heaps(125, 60):
            for row, turned in zip(rounds(heap, 4), rounds(heap[::-1], 4)):
                self.assertEqual(row[2], turned[2][::-1])

    def test_piles_that_like_candidates_of_their_own(self):
        chance = random.Random(15)
        for number in range(300):
            own = [[] for place in range(chance.randrange(1, 8))]
            for candidate in range(6):
                if chance.randrange(6):
                    own[chance.randrange(len(own))].append(candidate)
            heap = [(chance.randrange(1, chance.choice([4, 20, MOST])), marks) for marks in own]
            whole = sum(pile[0] for pile in heap)
            for seats in range(1, 7):
                chosen = [row[0] for row in rounds(heap, seats)]
                for weight, marks in heap:
                    wanted = min(seats * weight // whole, len(marks))
                    self.assertEqual(len(set(chosen) & set(marks)), wanted)

    def test_the_chosen_leave_no_group_out(self):
        for heap in small_heaps(126, 120, 4):
            for seats in [1, 2, 3, 4, 6]:
                members = sorted(row[0] for row in rounds(heap, seats))
                self.assertEqual(wronged(heap, seats, members, samples.is_left_out), [])
        for heap in great_heaps(127, 60):
            for seats in range(1, 7):
                self.assertIsNone(left_out(heap, seats, sorted(row[0] for row in rounds(heap, seats))))

    def test_what_is_handed_in_stays_and_what_is_told_is_the_askers_own(self):
        for heap in small_heaps(128, 60) + [[(3, [0, 1]), (1, [1, 2]), (2, [3])]]:
            before = copy.deepcopy(heap)
            told = rounds(heap, 4)
            self.assertEqual(heap, before)
            kept = copy.deepcopy(told)
            for number, row in enumerate(told):
                row[2].append((number, 1))
                row[2][0] = (99, 1)
            self.assertEqual([len(row[2]) for row in told], [len(heap) + 1] * len(told))
            told.clear()
            self.assertEqual(heap, before)
            self.assertEqual(rounds(heap, 4), kept)


if __name__ == "__main__":
    unittest.main()
