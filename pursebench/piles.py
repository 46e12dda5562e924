"""What is told of a heap, a list of piles (weight, marks), and how it is tidied."""


def weight_of(heap):
    return sum([weight for weight, marks in heap])


def weight_at(heap, places):
    return sum([heap[place][0] for place in places])


def weighed(heap, amounts, places):
    return sum([heap[place][0] * amounts[place] for place in places])


def liked(heap):
    found = []
    for weight, marks in heap:
        found.extend(marks)
    return sorted(set(found))


def likers(heap, candidate):
    return agreed(heap, [candidate])


def agreed(heap, some):
    return [place for place, pile in enumerate(heap) if likes_each(pile, some)]


def likes_each(pile, some):
    return all([candidate in pile[1] for candidate in some])


def tidy(heap):
    weights = {}
    for weight, marks in heap:
        # A list can't be a key; a tuple of the same marks sorts in the same order.
        key = tuple(marks)
        weights[key] = weights.get(key, 0) + weight
    return [(weights[key], list(key)) for key in sorted(weights)]
