"""What several tests draw on: heaps that are the same each time, and plain searches to hold the program against."""

import itertools
import random
from fractions import Fraction

ALL_SIX = [0, 1, 2, 3, 4, 5]
MOST = 10 ** 20


def choices_of(things):
    """Every rising list of some of the things, the empty one first."""
    found = []
    for many in range(len(things) + 1):
        found.extend([list(some) for some in itertools.combinations(things, many)])
    return found


def every_marks():
    return choices_of(ALL_SIX)


def random_heap(chance, piles, heaviest, candidates=6):
    found = []
    for place in range(piles):
        weight = chance.randrange(1, heaviest + 1)
        found.append((weight, sorted(chance.sample(range(candidates), chance.randrange(candidates + 1)))))
    return found


def small_heaps(seed, many, piles=5):
    """Heaps of none to so many piles with small weights, so that claims and rates are often just enough or alike."""
    chance = random.Random(seed)
    return [random_heap(chance, chance.randrange(piles + 1), chance.choice([1, 2, 4]), chance.choice([2, 3, 4, 6]))
            for number in range(many)]


def great_heaps(seed, many):
    chance = random.Random(seed)
    return [random_heap(chance, chance.randrange(1, 13), chance.choice([100, MOST]), 6) for number in range(many)]


def liked_by_some(heap):
    return [candidate for candidate in ALL_SIX if any(candidate in marks for weight, marks in heap)]


def cut(heap, place):
    """The heap with one pile cut in two, as far as its weight allows."""
    weight, marks = heap[place]
    if weight == 1:
        return list(heap)
    return heap[:place] + [(weight // 2, list(marks))] + heap[place + 1:] + [(weight - weight // 2, list(marks))]


def twins(heap):
    """Heaps that differ by the order of piles, by a pile cut in two, or by one number for all weights."""
    found = [heap[::-1], heap[1:] + heap[:1], [(7 * weight, list(marks)) for weight, marks in heap]]
    if heap:
        found.append(cut(heap, 0))
        found.append(cut(heap[::-1], len(heap) - 1))
    return found


def fraction(pair):
    return Fraction(pair[0], pair[1])


def pair_of(number):
    number = Fraction(number)
    return (number.numerator, number.denominator)


def pairs_of(numbers):
    return [pair_of(number) for number in numbers]


def long_purses(chance, heap):
    """Purses below 1 of four hundred figures."""
    return [pair_of(Fraction(chance.randrange(10 ** 399), chance.randrange(10 ** 399, 10 ** 400))) for pile in heap]


def purses_for(chance, heap):
    """Purses of which some are 0 and some are alike."""
    return [pair_of(Fraction(chance.randrange(7), chance.choice([1, 2, 3, 6]))) for pile in heap]


def has_claim(heap, seats, some, group):
    whole = sum(pile[0] for pile in heap)
    return (all(set(some) <= set(heap[place][1]) for place in group)
            and seats * sum(heap[place][0] for place in group) >= len(some) * whole)


def is_shut_out(heap, members, some, group):
    return len(some) == 1 and not any(set(heap[place][1]) & set(members) for place in group)


def is_passed_over(heap, members, some, group):
    together = set()
    for place in group:
        together.update(heap[place][1])
    return len(together & set(members)) < len(some)


def is_left_out(heap, members, some, group):
    return all(len(set(heap[place][1]) & set(members)) < len(some) for place in group)


def wronged(heap, seats, members, is_wronged):
    """Every pair (candidates, group) with a claim that is wronged, by a search through all lists and all groups."""
    found = []
    for group in choices_of(range(len(heap)))[1:]:
        for some in every_marks()[1:]:
            if has_claim(heap, seats, some, group) and is_wronged(heap, members, some, group):
                found.append((some, group))
    return found


def nobody_passed_over(heap, seats, members):
    return wronged(heap, seats, members, is_passed_over) == []
