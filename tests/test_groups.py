"""Promises [2], [3] and [7] to [10]: claims, and who is shut out, passed over or left out."""

import copy
import random
import unittest

import samples
from pursebench.groups import claim, left_out, passed_over, shut_out
from samples import ALL_SIX, MOST, choices_of, every_marks, great_heaps, has_claim, small_heaps, twins, wronged

ASKED = [(shut_out, samples.is_shut_out), (passed_over, samples.is_passed_over), (left_out, samples.is_left_out)]
ASKERS = [ask for ask, is_wronged in ASKED]


class Claim(unittest.TestCase):
    def test_ordinary(self):
        heap = [(6, [0, 1]), (3, [1]), (1, [])]
        self.assertIs(claim(heap, 2, [0], [0]), True)
        self.assertIs(claim(heap, 2, [0, 1], [0]), False)
        self.assertIs(claim(heap, 4, [0, 1], [0]), True)
        self.assertIs(claim(heap, 1, [1], [0, 1]), False)
        self.assertIs(claim(heap, 2, [1], [0, 1]), True)

    def test_a_pile_that_does_not_like_one_of_the_candidates(self):
        heap = [(9, [0, 1, 2]), (1, [0, 2])]
        self.assertIs(claim(heap, 6, [0, 1], [0, 1]), False)
        self.assertIs(claim(heap, 6, [1], [1]), False)
        self.assertIs(claim(heap, 6, [1], [0, 1]), False)
        self.assertIs(claim(heap, 6, [0, 2], [0, 1]), True)
        self.assertIs(claim(heap, 6, [0, 3], [0]), False)
        self.assertIs(claim([(5, [])], 6, [0], [0]), False)

    def test_just_enough_and_one_too_little(self):
        # Twice the weight of one claims one of two seats; with one ballot less it is too little.
        self.assertIs(claim([(5, [3]), (5, [4])], 2, [3], [0]), True)
        self.assertIs(claim([(4, [3]), (5, [4])], 2, [3], [0]), False)
        self.assertIs(claim([(2, [0, 1]), (1, [5])], 3, [0, 1], [0]), True)
        self.assertIs(claim([(199, [0, 1]), (101, [5])], 3, [0, 1], [0]), False)
        self.assertIs(claim([(1, [0])], 1, [0], [0]), True)
        self.assertIs(claim([(MOST, [0, 1])], 1, [0, 1], [0]), False)
        self.assertIs(claim([(1, ALL_SIX)], 6, ALL_SIX, [0]), True)
        self.assertIs(claim([(1, ALL_SIX)], 5, ALL_SIX, [0]), False)

    def test_groups_of_several_piles(self):
        heap = [(2, [0, 1]), (6, [4]), (1, [0, 1, 2]), (1, [0, 1])]
        self.assertIs(claim(heap, 5, [0, 1], [0, 2, 3]), True)
        self.assertIs(claim(heap, 5, [0, 1], [0, 2]), False)
        self.assertIs(claim(heap, 5, [0], [0, 2]), True)
        self.assertIs(claim(heap, 5, [0, 1, 2], [0, 2, 3]), False)

    def test_great_weights(self):
        half = MOST // 2
        self.assertIs(claim([(half, [0]), (MOST, [1])], 3, [0], [0]), True)
        self.assertIs(claim([(half - 1, [0]), (MOST, [1])], 3, [0], [0]), False)
        self.assertIs(claim([(MOST, [2])] * 12, 4, [2], [1, 5, 7]), True)
        self.assertIs(claim([(MOST, [2])] * 9 + [(MOST - 1, [2])] * 3, 4, [2], [9, 10, 11]), False)

    def test_against_the_plain_words(self):
        for heap in small_heaps(71, 40, 4):
            for group in choices_of(range(len(heap)))[1:]:
                for some in every_marks()[1:]:
                    for seats in [1, 2, 3, 6]:
                        self.assertIs(claim(heap, seats, some, group), has_claim(heap, seats, some, group))

    def test_what_is_handed_in_stays(self):
        heap, some, group = [(3, [0, 1]), (2, [1])], [0, 1], [0]
        self.assertIs(claim(heap, 4, some, group), True)
        self.assertEqual((heap, some, group), ([(3, [0, 1]), (2, [1])], [0, 1], [0]))


class Told(unittest.TestCase):
    def test_no_piles(self):
        for ask in ASKERS:
            for members in [[], [0], [1, 4], ALL_SIX]:
                for seats in ALL_SIX[1:] + [6]:
                    self.assertIsNone(ask([], seats, members))

    def test_piles_without_marks(self):
        for ask in ASKERS:
            for members in [[], [0], ALL_SIX]:
                self.assertIsNone(ask([(5, []), (7, [])], 6, members))
            self.assertIsNone(ask([(9, []), (1, [2])], 6, []))
        self.assertEqual(left_out([(5, []), (1, [2])], 6, []), ([2], [1]))

    def test_an_empty_bench(self):
        for ask in ASKERS:
            self.assertEqual(ask([(1, [4])], 1, []), ([4], [0]))
            self.assertEqual(ask([(1, [0]), (9, [4])], 1, []), None)
            self.assertEqual(ask([(1, [0]), (9, [4])], 2, []), ([4], [1]))

    def test_a_bench_of_all_candidates(self):
        for ask in ASKERS:
            for heap in small_heaps(72, 60) + great_heaps(73, 20):
                for seats in [1, 3, 6]:
                    self.assertIsNone(ask(heap, seats, ALL_SIX))

    def test_just_enough_and_one_too_little(self):
        for ask in ASKERS:
            self.assertEqual(ask([(MOST // 2, [0]), (MOST, [1])], 3, [1]), ([0], [0]))
            self.assertIsNone(ask([(MOST // 2 - 1, [0]), (MOST, [1])], 3, [1]))
            # One too little by itself, just enough by two piles.
            self.assertEqual(ask([(3, [0]), (12, [1]), (3, [0])], 3, [1]), ([0], [0, 2]))
            self.assertIsNone(ask([(3, [0]), (12, [1]), (2, [0])], 3, [1]))
        for ask in [passed_over, left_out]:
            self.assertEqual(ask([(4, [0, 1]), (2, [3])], 3, [0, 3]), ([0, 1], [0]))
            self.assertIsNone(ask([(39, [0, 1]), (21, [3])], 3, [0, 3]))

    def test_left_out_but_not_passed_over(self):
        heap = [(1, [0, 1, 2]), (1, [0, 1, 3])]
        self.assertEqual(left_out(heap, 2, [2, 3]), ([0, 1], [0, 1]))
        self.assertIsNone(passed_over(heap, 2, [2, 3]))
        self.assertIsNone(shut_out(heap, 2, [2, 3]))

    def test_passed_over_but_not_shut_out(self):
        heap = [(5, [0, 1])]
        self.assertEqual(left_out(heap, 2, [0]), ([0, 1], [0]))
        self.assertEqual(passed_over(heap, 2, [0]), ([0, 1], [0]))
        self.assertIsNone(shut_out(heap, 2, [0]))

    def test_passed_over_by_a_part_of_those_who_agree(self):
        # All three like 3, 4 and 5 together; the last two like 3 alone and have a claim to two seats.
        heap = [(1, [0, 1, 4, 5]), (1, [0, 1, 3]), (1, [0, 1, 3])]
        self.assertEqual(passed_over(heap, 3, [3, 4, 5]), ([0, 1], [1, 2]))
        self.assertEqual(left_out(heap, 3, [3, 4, 5]), ([0, 1], [1, 2]))
        self.assertIsNone(shut_out(heap, 3, [3, 4, 5]))

    def test_members_whom_nobody_likes_help_nobody(self):
        for ask in ASKERS:
            self.assertEqual(ask([(1, [2])], 1, [0, 1, 3, 4, 5]), ([2], [0]))

    def test_a_list_may_hold_members(self):
        heap = [(1, [0, 5])]
        self.assertEqual(passed_over(heap, 2, [5]), ([0, 5], [0]))


class Search(unittest.TestCase):
    def assert_told(self, told, fitting, largest):
        if not fitting:
            self.assertIsNone(told)
            return
        self.assertIs(type(told), tuple)
        self.assertEqual([type(part) for part in told], [list, list])
        self.assertIn(told, fitting)
        if largest:
            together = set()
            for some, group in fitting:
                if some == told[0]:
                    together.update(group)
            self.assertEqual(told[1], sorted(together))

    def test_against_a_plain_search(self):
        chance = random.Random(8)
        counts = {ask: [0, 0] for ask in ASKERS}
        for heap in small_heaps(74, 500, 4):
            members = sorted(chance.sample(range(6), chance.choice([0, 1, 2, 2, 3, 3, 4, 5])))
            seats = chance.choice([1, 2, 3, 3, 4, 6])
            for ask, is_wronged in ASKED:
                fitting = wronged(heap, seats, members, is_wronged)
                counts[ask][fitting == []] += 1
                self.assert_told(ask(heap, seats, members), fitting, ask != passed_over)
        # The heaps are such that each is told often, and often None.
        for ask in ASKERS:
            self.assertGreater(min(counts[ask]), 40)

    def test_every_bench_of_some_heaps(self):
        heaps = [[(1, [0, 1, 2]), (1, [0, 1, 3]), (1, [0, 1, 4]), (1, [2, 3, 4])],
                 [(2, [0, 1, 2]), (1, [0, 1, 3]), (3, [3, 5])],
                 [(1, ALL_SIX), (1, [0, 1, 2]), (1, [3, 4, 5])]]
        for heap in heaps:
            for members in every_marks():
                for seats in [2, 3, 4]:
                    for ask, is_wronged in ASKED:
                        fitting = wronged(heap, seats, members, is_wronged)
                        self.assert_told(ask(heap, seats, members), fitting, ask != passed_over)

    def test_who_is_shut_out_is_passed_over_and_who_is_passed_over_is_left_out(self):
        chance = random.Random(9)
        for heap in great_heaps(75, 150):
            members = sorted(chance.sample(range(6), chance.randrange(5)))
            for seats in [1, 3, 6]:
                told = [ask(heap, seats, members) for ask in ASKERS]
                for (ask, is_wronged), answer in zip(ASKED, told):
                    if answer is not None:
                        self.assertTrue(has_claim(heap, seats, answer[0], answer[1]))
                        self.assertTrue(is_wronged(heap, members, answer[0], answer[1]))
                if told[0] is not None:
                    self.assertIsNotNone(told[1])
                if told[1] is not None:
                    self.assertIsNotNone(told[2])

    def test_the_heap_alone_counts(self):
        chance = random.Random(10)
        for heap in small_heaps(76, 150):
            members = sorted(chance.sample(range(6), chance.randrange(5)))
            for ask in ASKERS:
                told = ask(heap, 3, members)
                for twin in twins(heap):
                    self.assertEqual(ask(twin, 3, members) is None, told is None)


class Kept(unittest.TestCase):
    def test_what_is_handed_in_stays_and_what_is_told_is_the_askers_own(self):
        heaps = [[(1, [0, 1, 2]), (1, [0, 1, 3])], [(5, [0, 1])], [(1, [4]), (1, [4])]]
        for heap in heaps:
            for members in [[], [5]]:
                for ask in ASKERS:
                    heap_before, members_before = copy.deepcopy(heap), list(members)
                    told = ask(heap, 2, members)
                    self.assertIsNotNone(told)
                    self.assertEqual((heap, members), (heap_before, members_before))
                    told[0].append(99)
                    told[1].append(99)
                    self.assertEqual((heap, members), (heap_before, members_before))
                    again = ask(heap, 2, members)
                    self.assertNotIn(99, again[0] + again[1])

    def test_what_is_done_behind_the_call_changes_nothing(self):
        for ask in ASKERS:
            heap, members = [(1, [4]), (1, [0])], [0]
            told = ask(heap, 2, members)
            heap[0][1].append(5)
            heap.append((7, [0]))
            members.append(4)
            self.assertEqual(told, ([4], [0]))
            self.assertIsNone(ask(heap, 2, members))


if __name__ == "__main__":
    unittest.main()
