"""Promises [2], [3], [13] and [14]: the paper of the rounds, and whether anything pays."""

import copy
import random
import unittest
from fractions import Fraction

from pursebench.groups import passed_over
from pursebench.money import paper_of, pays
from pursebench.purses import rounds
from samples import MOST, fraction, great_heaps, nobody_passed_over, pairs_of, small_heaps

LONG = 10 ** 3999 + 1
LONGEST = 10 ** 4000 - 1


def nested(depth):
    thing = 1
    for number in range(depth):
        thing = [thing] if number % 2 else (thing,)
    return thing


def things():
    """Of anything: what is no paper, whatever the heap."""
    return [None, True, False, 0, 1, -1, 12, LONGEST, -LONGEST, "", "[]", "paper", "\t\n ~", (), ((0, [(1, 1)]),),
            [None], [True], [0], [LONG], [""], ["ab"], [[]], [()], [[0, [(1, 1)]]], [(0,)], [(0, [(1, 1)], 0)],
            [(0, None)], [(0, 1)], [(0, "ab")], [(0, (1, 1))], [([], [])], [((), ())], [[], [], []], nested(3000),
            [nested(3000)], [(nested(3000), [(1, 1)])], [(0, nested(3000))], [(0, [nested(3000)])], [(0, [None])],
            [(0, [1])], [(0, ["1"])], [(0, [(1, nested(3000))])], [None] * 100000, "x" * 100000, [0] * 100000]


def bad_noughts():
    """What is no fraction from 0 on, each in the place of (0, 1)."""
    return [0, False, None, "", "0", [], (), [0, 1], (0,), (0, 1, 1), (0, 2), (0, LONG), (0, 0), (0, -1), (0, -LONG),
            (False, 1), (0, True), (False, True), ("0", 1), (0, "1"), ("0", "1"), (None, 1), (0, None), ((0, 1), 1),
            (0, [1]), ([0], 1), [(0, 1)], ((0, 1),), nested(3000), (nested(3000), 1), (0, nested(3000))]


def bad_ones():
    """What is no fraction, each in the place of (1, 1)."""
    return [1, True, None, "1", [1, 1], (1,), (1, 1, 1), (2, 2), (-1, -1), (LONG, LONG), (-LONG, -LONG), (True, 1),
            (1, True), (True, True), ("1", "1"), ((1, 1), 1), (1, (1, 1)), ([1], [1]), (1, 0), (1, -1), (-1, 1)]


def bad_candidates():
    return [6, 7, -1, LONGEST, -LONGEST, None, "", "0", "1", [], [1], (), (1,), (1, 1), nested(3000)]


class PaperOf(unittest.TestCase):
    def test_ordinary(self):
        heap = [(1, [0, 1]), (3, [0]), (2, [1])]
        self.assertEqual(paper_of(heap, 3), [(0, pairs_of([Fraction(3, 2), Fraction(3, 2), 0])),
                                             (1, pairs_of([Fraction(3, 2), 0, Fraction(9, 4)]))])

    def test_no_piles_and_no_rounds(self):
        for seats in range(1, 7):
            self.assertEqual(paper_of([], seats), [])
            self.assertEqual(paper_of([(4, []), (9, [])], seats), [])

    def test_a_pair_for_each_round_in_their_order(self):
        for heap in small_heaps(131, 200) + great_heaps(132, 40):
            for seats in [1, 2, 4, 6]:
                told = paper_of(heap, seats)
                self.assertIs(type(told), list)
                rows = rounds(heap, seats)
                self.assertEqual([entry[0] for entry in told], [row[0] for row in rows])
                purses = [Fraction(seats) for pile in heap]
                for entry, row in zip(told, rows):
                    self.assertIs(type(entry), tuple)
                    self.assertEqual([type(part) for part in entry], [int, list])
                    behind = [fraction(purse) for purse in row[2]]
                    self.assertEqual(entry[1], pairs_of([one - other for one, other in zip(purses, behind)]))
                    for part in entry[1]:
                        self.assertEqual((type(part), type(part[0]), type(part[1])), (tuple, int, int))
                    purses = behind

    def test_each_list_is_the_askers_own(self):
        for heap in small_heaps(133, 60) + [[(3, [0, 1]), (1, [1, 2]), (2, [3])]]:
            before = copy.deepcopy(heap)
            told = paper_of(heap, 4)
            self.assertEqual(heap, before)
            kept = copy.deepcopy(told)
            for entry in told:
                entry[1].append((9, 1))
            self.assertEqual([len(entry[1]) for entry in told], [len(heap) + 1] * len(told))
            told.append(None)
            self.assertEqual(heap, before)
            self.assertEqual(paper_of(heap, 4), kept)


class Pays(unittest.TestCase):
    def assert_pays(self, heap, seats, paper, wanted):
        heap_before, paper_before = copy.deepcopy(heap), copy.deepcopy(paper)
        self.assertIs(pays(heap, seats, paper), wanted)
        self.assertEqual((heap, paper), (heap_before, paper_before))

    def test_the_paper_of_the_rounds_pays(self):
        for heap in small_heaps(141, 200) + great_heaps(142, 60):
            for seats in range(1, 7):
                if heap:
                    self.assert_pays(heap, seats, paper_of(heap, seats), True)

    def test_in_whatever_order(self):
        heap = [(1, [0]), (1, [1])]
        paper = [(0, pairs_of([2, 0])), (1, pairs_of([0, 2]))]
        self.assert_pays(heap, 2, paper, True)
        self.assert_pays(heap, 2, paper[::-1], True)

    def test_the_empty_paper(self):
        self.assert_pays([(4, []), (9, [])], 6, [], True)
        self.assert_pays([(9, []), (3, [4])], 3, [], True)
        self.assert_pays([(9, []), (3, [4])], 4, [], False)
        self.assert_pays([(MOST, [0, 1, 2, 3, 4, 5])], 1, [], False)

    def test_a_pile_that_does_not_like_the_candidate_paid(self):
        heap = [(1, [0]), (1, [1])]
        self.assert_pays(heap, 2, [(0, pairs_of([1, 1])), (1, pairs_of([1, 1]))], False)
        self.assert_pays([(1, [0, 1]), (1, [0, 1])], 2, [(0, pairs_of([1, 1])), (1, pairs_of([1, 1]))], True)
        # Nobody likes the candidate at all.
        self.assert_pays([(1, [])], 1, [(3, pairs_of([1]))], False)

    def test_the_sum_is_not_the_weight(self):
        heap = [(1, [0])]
        self.assert_pays(heap, 2, [(0, [(1, 1)])], True)
        for amount in [(2, 1), (1, 2), (LONG + 1, LONG), (LONG - 1, LONG), (0, 1)]:
            self.assert_pays(heap, 2, [(0, [amount])], False)
        great = [(MOST, [0]), (MOST - 1, [0])]
        self.assert_pays(great, 1, [(0, [(1, 1), (1, 1)])], True)
        self.assert_pays(great, 1, [(0, [(1, 1), (MOST - 2, MOST - 1)])], False)
        self.assert_pays(great, 2, [(0, [(MOST + 1, MOST), (MOST - 2, MOST - 1)])], True)
        self.assert_pays(great, 2, [(0, [(MOST + 1, MOST), (1, 1)])], False)

    def test_a_ballot_paid_more_than_the_seats(self):
        heap = [(1, [0, 1]), (1, [0, 1])]
        self.assert_pays(heap, 1, [(0, pairs_of([1, 1]))], True)
        self.assert_pays(heap, 1, [(0, pairs_of([2, 0]))], False)
        self.assert_pays(heap, 1, [(0, pairs_of([Fraction(LONG + 1, LONG), Fraction(LONG - 1, LONG)]))], False)
        # Too much in all, by two payments that each are not.
        self.assert_pays(heap, 2, [(0, pairs_of([Fraction(3, 2), Fraction(1, 2)])),
                                   (1, pairs_of([Fraction(2, 3), Fraction(4, 3)]))], False)
        self.assert_pays(heap, 2, [(0, pairs_of([Fraction(3, 2), Fraction(1, 2)])),
                                   (1, pairs_of([Fraction(1, 2), Fraction(3, 2)]))], True)

    def test_another_candidate_can_still_be_bought(self):
        heap = [(1, [0, 1])]
        self.assert_pays(heap, 2, [(0, [(1, 1)])], False)
        self.assert_pays(heap, 2, [(1, [(1, 1)])], False)
        self.assert_pays(heap, 2, [(0, [(1, 1)]), (1, [(1, 1)])], True)
        # Just as much as the weight is left with those who like 1, and then a very little less.
        heap = [(1, [0]), (1, [0, 1])]
        self.assert_pays(heap, 2, [(0, pairs_of([2, 0]))], False)
        self.assert_pays(heap, 2, [(0, pairs_of([Fraction(2 * LONG - 1, LONG), Fraction(1, LONG)]))], True)

    def test_papers_that_are_not_the_paper_of_the_rounds(self):
        heap = [(1, [0]), (1, [0])]
        self.assertEqual(paper_of(heap, 2), [(0, pairs_of([1, 1]))])
        for one in [Fraction(3, 2), Fraction(1, 3), 0, 2, Fraction(LONG + 2, LONG), Fraction(1, LONG)]:
            self.assert_pays(heap, 2, [(0, pairs_of([one, 2 - one]))], True)
        # Another candidate is bought than the rounds choose.
        heap = [(1, [0, 1]), (1, [0])]
        self.assertEqual([entry[0] for entry in paper_of(heap, 2)], [0])
        self.assert_pays(heap, 2, [(1, pairs_of([2, 0])), (0, pairs_of([0, 2]))], True)

    def test_whoever_made_the_paper_no_group_is_passed_over(self):
        chance = random.Random(16)
        unlike = 0
        for heap in [heap for heap in small_heaps(143, 250, 4) if heap]:
            for seats in [1, 2, 3, 5]:
                paper = any_paper(chance, heap, seats)
                self.assert_pays(heap, seats, paper, True)
                members = sorted(entry[0] for entry in paper)
                self.assertLessEqual(len(members), seats)
                self.assertTrue(nobody_passed_over(heap, seats, members))
                self.assertIsNone(passed_over(heap, seats, members))
                unlike += sorted(paper) != sorted(paper_of(heap, seats))
                for short in [paper[:-1], paper[1:]] if paper else []:
                    if pays(heap, seats, short):
                        self.assertIsNone(passed_over(heap, seats, sorted(entry[0] for entry in short)))
        self.assertGreater(unlike, 200)

    def test_the_heap_alone_counts(self):
        chance = random.Random(17)
        for heap in [heap for heap in small_heaps(144, 150) if heap]:
            paper = any_paper(chance, heap, 3)
            turned = [(candidate, amounts[::-1]) for candidate, amounts in paper]
            self.assert_pays(heap[::-1], 3, turned, True)
            self.assert_pays([(9 * weight, marks) for weight, marks in heap], 3, paper, True)
            weight, marks = heap[0]
            if weight > 1:
                parted = [(1, list(marks)), (weight - 1, list(marks))] + heap[1:]
                doubled = [(candidate, amounts[:1] + amounts) for candidate, amounts in paper]
                self.assert_pays(parted, 3, doubled, True)


def any_paper(chance, heap, seats):
    """A paper that pays, made by buying in any order whatever can be bought, each time by any payments."""
    price = sum(pile[0] for pile in heap)
    left = [Fraction(seats) for pile in heap]
    paper = []
    order = list(range(6))
    chance.shuffle(order)
    for candidate in order:
        fans = [place for place, pile in enumerate(heap) if candidate in pile[1]]
        rest = Fraction(price)
        amounts = [Fraction(0) for pile in heap]
        if sum(heap[place][0] * left[place] for place in fans) < price:
            continue
        chance.shuffle(fans)
        for place in fans:
            amounts[place] = min(left[place] * Fraction(chance.randrange(5), 4), rest / heap[place][0])
            rest -= heap[place][0] * amounts[place]
        for place in fans:
            more = min(left[place] - amounts[place], rest / heap[place][0])
            amounts[place] += more
            rest -= heap[place][0] * more
        left = [one - other for one, other in zip(left, amounts)]
        paper.append((candidate, pairs_of(amounts)))
    return paper


class Anything(unittest.TestCase):
    def assert_refused(self, heap, seats, paper):
        self.assertIs(pays(heap, seats, paper), False)

    def test_what_is_no_paper(self):
        for number, thing in enumerate(things()):
            with self.subTest(number=number):
                self.assert_refused([(1, [0])], 1, thing)
                self.assert_refused([(1, [0]), (2, [0, 1])], 3, thing)

    def test_what_is_no_paper_where_nothing_needs_to_be_bought(self):
        for number, thing in enumerate(things()):
            with self.subTest(number=number):
                self.assert_refused([(1, [])], 1, thing)

    def test_kinds_of_the_paper(self):
        heap = [(1, [0]), (1, [1])]
        self.assertIs(pays(heap, 2, [(0, [(2, 1), (0, 1)]), (1, [(0, 1), (2, 1)])]), True)
        for paper in [((0, [(2, 1), (0, 1)]), (1, [(0, 1), (2, 1)])),
                      [[0, [(2, 1), (0, 1)]], (1, [(0, 1), (2, 1)])],
                      [(0, ((2, 1), (0, 1))), (1, [(0, 1), (2, 1)])],
                      [(0, [[2, 1], (0, 1)]), (1, [(0, 1), (2, 1)])],
                      [(0, [(2, 1), (0, 1)]), (1, [(0, 1), (2, 1)], 1)],
                      [(0, [(2, 1), (0, 1)]), (1,)],
                      [(0, [(2, 1), (0, 1)]), (1, [(0, 1), (2, 1)]), ()],
                      [(0, [(2, 1), (0, 1)]), (1, [(0, 1), (2, 1)]), None],
                      [([(2, 1), (0, 1)], 0), (1, [(0, 1), (2, 1)])],
                      [(0, [(2, 1), (0, 1)]), [(1, [(0, 1), (2, 1)])]]]:
            with self.subTest(paper=paper):
                self.assert_refused(heap, 2, paper)

    def test_candidates(self):
        heap = [(1, [0]), (1, [1])]
        for candidate in bad_candidates() + [True]:
            self.assert_refused(heap, 2, [(0, [(2, 1), (0, 1)]), (candidate, [(0, 1), (2, 1)])])
        self.assert_refused(heap, 2, [(False, [(2, 1), (0, 1)]), (1, [(0, 1), (2, 1)])])
        self.assert_refused([(1, [5])], 1, [(6, [(1, 1)])])
        self.assertIs(pays([(1, [5])], 1, [(5, [(1, 1)])]), True)

    def test_a_candidate_twice(self):
        heap = [(1, [0])]
        self.assertIs(pays(heap, 2, [(0, [(1, 1)])]), True)
        self.assert_refused(heap, 2, [(0, [(1, 1)]), (0, [(1, 1)])])
        heap = [(1, [0, 1])]
        self.assert_refused(heap, 3, [(0, [(1, 1)]), (1, [(1, 1)]), (0, [(1, 1)])])

    def test_lengths_of_what_was_paid(self):
        heap = [(1, [0]), (1, [0])]
        self.assertIs(pays(heap, 1, [(0, [(1, 1), (1, 1)])]), True)
        for amounts in [[], [(2, 1)], [(1, 1)], [(1, 1), (1, 1), (0, 1)], [(0, 1)] + [(1, 1), (1, 1)]]:
            self.assert_refused(heap, 1, [(0, amounts)])

    def test_fractions(self):
        heap = [(1, [0]), (1, [0])]
        self.assertIs(pays(heap, 2, [(0, [(2, 1), (0, 1)])]), True)
        for number, part in enumerate(bad_noughts()):
            with self.subTest(number=number):
                self.assert_refused(heap, 2, [(0, [(2, 1), part])])
                self.assert_refused(heap, 2, [(0, [part, (2, 1)])])
        self.assertIs(pays(heap, 2, [(0, [(1, 1), (1, 1)])]), True)
        for number, part in enumerate(bad_ones()):
            with self.subTest(number=number):
                self.assert_refused(heap, 2, [(0, [(1, 1), part])])
                self.assert_refused(heap, 2, [(0, [part, (1, 1)])])

    def test_fractions_below_nought(self):
        heap = [(1, [0]), (1, [0]), (1, [0])]
        self.assertIs(pays(heap, 2, [(0, [(2, 1), (1, 1), (0, 1)])]), True)
        self.assert_refused(heap, 2, [(0, [(2, 1), (2, 1), (-1, 1)])])
        self.assert_refused(heap, 2, [(0, [(2, 1), (LONG + 1, LONG), (-1, LONG)])])
        # Below 0 for one candidate, so that another one could be paid.
        self.assert_refused([(1, [0, 1]), (1, [0, 1])], 2,
                            [(0, pairs_of([3, -1])), (1, pairs_of([-1, 3]))])

    def test_numbers_of_four_thousand_figures(self):
        heap = [(1, [0, 1]), (1, [0, 1]), (2, [1])]
        for bottom in [LONG, LONGEST, 3 ** 8000]:
            one = Fraction(2 * bottom + 1, bottom)
            first = (0, pairs_of([one, 4 - one, 0]))
            self.assertIs(pays(heap, 3, [first, (1, pairs_of([0, 1, Fraction(3, 2)]))]), True)
            self.assert_refused(heap, 3, [first, (1, pairs_of([one - 2, 1, Fraction(3, 2)]))])
            self.assert_refused(heap, 3, [(0, [(2 * bottom + 2, 2 * bottom), (1, bottom), (0, 1)])])
        for part in [(LONGEST, 1), (1, LONGEST), (LONGEST, LONGEST - 1), (-LONGEST, 1), (LONGEST, -1)]:
            self.assert_refused([(1, [0])], 6, [(0, [part])])

    def test_many_long_fractions(self):
        chance = random.Random(18)
        heap = [(1, [0, 1, 2, 3, 4, 5]) for place in range(12)]
        paper = []
        for candidate in range(3):
            amounts = []
            for number in range(6):
                bottom = chance.randrange(10 ** 3998, 10 ** 3999)
                one = Fraction(chance.randrange(bottom), 2 * bottom)
                amounts.extend([Fraction(1, 2) + one, Fraction(3, 2) - one])
            paper.append((candidate, pairs_of(amounts)))
        self.assertIs(pays(heap, 3, paper[:1]), False)
        totals = [sum(fraction(entry[1][place]) for entry in paper) for place in range(12)]
        self.assertIs(pays(heap, 3, paper), max(totals) <= 3)
        turned = [(3, paper[0][1][1::-1] + pairs_of([1] * 10)), (4, paper[0][1][:2] + pairs_of([1] * 10))]
        self.assertIs(pays(heap, 2, turned), True)
        self.assertIs(pays(heap, 2, [turned[0], (5, turned[0][1])]), False)

    def test_the_thing_stays(self):
        for thing in [[(0, [(2, 2)])], [(0, [(1, 1)]), (0, [(1, 1)])], [[0, [(1, 1)]]], [(0, [(1, 1)])], [(0, [])]]:
            before = copy.deepcopy(thing)
            pays([(1, [0])], 1, thing)
            self.assertEqual(thing, before)


if __name__ == "__main__":
    unittest.main()
