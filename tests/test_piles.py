"""Promises [2], [5] and [6]: what is told of a heap, and how it is tidied."""

import copy
import random
import unittest

from pursebench.piles import agreed, liked, likers, tidy, weight_of
from samples import ALL_SIX, MOST, every_marks


def some_heaps():
    """Heaps of none to twelve piles, the same ones each time."""
    chance = random.Random(6)
    marks = every_marks()
    found = []
    for many in range(13):
        for number in range(4):
            # Half of them draw from few marks, so that several piles have like ones.
            drawn = marks if number % 2 else chance.sample(marks, 4)
            found.append([(chance.randrange(1, 10 ** 18), list(chance.choice(drawn))) for place in range(many)])
    return found


def small_heap():
    return [(3, [0, 1]), (10, []), (4, [1, 4]), (1, [0, 1]), (MOST, [0, 1, 2, 3, 4, 5]), (2, [4])]


class Told(unittest.TestCase):
    def test_no_piles(self):
        self.assertEqual(weight_of([]), 0)
        self.assertEqual(liked([]), [])
        for candidate in ALL_SIX:
            self.assertEqual(likers([], candidate), [])
        for some in [[], [0], [1, 3], ALL_SIX]:
            self.assertEqual(agreed([], some), [])

    def test_piles_without_marks(self):
        heap = [(5, []), (7, [])]
        self.assertEqual(weight_of(heap), 12)
        self.assertEqual(liked(heap), [])
        self.assertEqual(likers(heap, 0), [])
        self.assertEqual(agreed(heap, []), [0, 1])
        self.assertEqual(agreed(heap, [0]), [])

    def test_weight(self):
        told = weight_of(small_heap())
        self.assertEqual(told, MOST + 20)
        self.assertIs(type(told), int)
        self.assertEqual(weight_of([(MOST, [0])] * 12), 12 * MOST)
        self.assertEqual(weight_of([(1, [])]), 1)

    def test_liked(self):
        self.assertEqual(liked(small_heap()), ALL_SIX)
        self.assertEqual(liked([(1, [5]), (9, [0, 3]), (2, []), (2, [3, 5])]), [0, 3, 5])
        self.assertEqual(liked([(1, [4]), (1, [2]), (1, [2]), (1, [0])]), [0, 2, 4])

    def test_likers(self):
        heap = small_heap()
        self.assertEqual([likers(heap, candidate) for candidate in ALL_SIX],
                         [[0, 3, 4], [0, 2, 3, 4], [4], [4], [2, 4, 5], [4]])
        self.assertEqual(likers([(1, [1]), (2, [1]), (3, [1])], 1), [0, 1, 2])

    def test_candidate_that_nobody_likes(self):
        heap = [(1, [0, 2]), (4, [5])]
        self.assertEqual(likers(heap, 1), [])
        self.assertEqual(agreed(heap, [1]), [])
        self.assertEqual(agreed(heap, [0, 1]), [])

    def test_agreed(self):
        heap = small_heap()
        self.assertEqual(agreed(heap, []), [0, 1, 2, 3, 4, 5])
        self.assertEqual(agreed(heap, [4]), [2, 4, 5])
        self.assertEqual(agreed(heap, [0, 1]), [0, 3, 4])
        self.assertEqual(agreed(heap, [1, 4]), [2, 4])
        self.assertEqual(agreed(heap, [0, 1, 4]), [4])
        self.assertEqual(agreed(heap, ALL_SIX), [4])
        self.assertEqual(agreed([(1, [0, 1, 2, 3, 4])], ALL_SIX), [])

    def test_every_heap_and_some_candidates(self):
        for heap in some_heaps():
            self.assertEqual(weight_of(heap), sum(pile[0] for pile in heap))
            self.assertEqual(liked(heap), [c for c in ALL_SIX if any(c in pile[1] for pile in heap)])
            for some in every_marks():
                wanted = [k for k in range(len(heap)) if set(some) <= set(heap[k][1])]
                self.assertEqual(agreed(heap, some), wanted)
                if len(some) == 1:
                    self.assertEqual(likers(heap, some[0]), wanted)

    def test_what_is_handed_in_stays(self):
        for heap in some_heaps():
            before = copy.deepcopy(heap)
            some = [0, 2]
            weight_of(heap)
            liked(heap)
            likers(heap, 3)
            agreed(heap, some)
            agreed(heap, [])
            self.assertEqual(heap, before)
            self.assertEqual(some, [0, 2])

    def test_what_is_told_is_the_askers_own(self):
        for heap in [small_heap(), [(1, [0])], [(3, [1, 2])], []]:
            before = copy.deepcopy(heap)
            for ask in [liked, lambda asked: likers(asked, 1), lambda asked: agreed(asked, [0]),
                        lambda asked: agreed(asked, [])]:
                told = ask(heap)
                self.assertIs(type(told), list)
                kept = list(told)
                told.append(99)
                told.reverse()
                self.assertEqual(heap, before)
                self.assertEqual(ask(heap), kept)

    def test_agreed_does_not_tell_the_list_that_was_handed_in(self):
        some = [0]
        told = agreed([(1, [0])], some)
        self.assertEqual(told, [0])
        told.append(5)
        self.assertEqual(some, [0])

    def test_what_is_done_behind_the_call_changes_nothing(self):
        heap = [(1, [0]), (2, [0, 3])]
        some = [0]
        first, second, third = liked(heap), likers(heap, 0), agreed(heap, some)
        heap[0][1].append(5)
        heap.append((1, [0, 4]))
        some.append(3)
        self.assertEqual((first, second, third), ([0, 3], [0, 1], [0, 1]))
        self.assertEqual((liked(heap), likers(heap, 0), agreed(heap, some)), ([0, 3, 4, 5], [0, 1, 2], [1]))


class Tidy(unittest.TestCase):
    def assert_kinds(self, told):
        self.assertIs(type(told), list)
        for pile in told:
            self.assertIs(type(pile), tuple)
            self.assertEqual([type(part) for part in pile], [int, list])

    def test_no_piles(self):
        told = tidy([])
        self.assertEqual(told, [])
        told.append((1, []))
        self.assertEqual(tidy([]), [])

    def test_like_marks_side_by_side(self):
        self.assertEqual(tidy([(1, [2]), (5, [2]), (7, [3])]), [(6, [2]), (7, [3])])
        self.assertEqual(tidy([(1, []), (5, []), (7, [])]), [(13, [])])

    def test_like_marks_apart(self):
        heap = [(1, [2]), (5, [0, 2]), (7, [2]), (2, []), (9, [0, 2])]
        self.assertEqual(tidy(heap), [(2, []), (14, [0, 2]), (8, [2])])

    def test_order(self):
        heap = [(1, [1]), (2, [0, 2]), (3, []), (4, [0, 1]), (5, [0]), (6, [0, 1, 5]), (7, [5])]
        wanted = [(3, []), (5, [0]), (4, [0, 1]), (6, [0, 1, 5]), (2, [0, 2]), (1, [1]), (7, [5])]
        self.assertEqual(tidy(heap), wanted)
        # The weights have no say in it.
        self.assertEqual(tidy([(9, [0]), (1, [3])]), [(9, [0]), (1, [3])])
        self.assertEqual(tidy([(1, [3]), (9, [0])]), [(9, [0]), (1, [3])])

    def test_every_heap(self):
        for heap in some_heaps():
            told = tidy(heap)
            self.assert_kinds(told)
            marks = sorted(list(one) for one in set(tuple(pile[1]) for pile in heap))
            wanted = [(sum(pile[0] for pile in heap if pile[1] == one), one) for one in marks]
            self.assertEqual(told, wanted)

    def test_a_tidied_heap_is_tidied_to_itself(self):
        for heap in some_heaps():
            told = tidy(heap)
            again = tidy(told)
            self.assertEqual(again, told)
            self.assert_kinds(again)

    def test_the_order_of_piles_does_not_count(self):
        for heap in some_heaps():
            self.assertEqual(tidy(heap[::-1]), tidy(heap))

    def test_great_weights(self):
        self.assertEqual(tidy([(MOST - 1, [0]), (1, [0])]), [(MOST, [0])])

    def test_what_is_handed_in_stays(self):
        for heap in some_heaps():
            before = copy.deepcopy(heap)
            told = tidy(heap)
            self.assertEqual(heap, before)
            for pile in told:
                pile[1].append(99)
            told.clear()
            self.assertEqual(heap, before)

    def test_what_was_told_stays(self):
        for heap in some_heaps() + [tidy(small_heap())]:
            told = tidy(heap)
            kept = copy.deepcopy(told)
            for pile in heap:
                pile[1].append(99)
            heap.append((1, [3]))
            self.assertEqual(told, kept)

    def test_told_anew_each_time(self):
        heap = small_heap()
        first = tidy(heap)
        kept = copy.deepcopy(first)
        second = tidy(heap)
        for pile in first:
            pile[1].append(99)
        first.reverse()
        self.assertEqual(second, kept)
        self.assertEqual(tidy(heap), kept)

    def test_piles_that_share_one_list_of_marks(self):
        marks = [1, 4]
        told = tidy([(2, marks), (3, [0]), (5, marks)])
        self.assertEqual(told, [(3, [0]), (7, [1, 4])])
        told[1][1].append(5)
        self.assertEqual(marks, [1, 4])


if __name__ == "__main__":
    unittest.main()
