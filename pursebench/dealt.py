"""Party lists: heaps where piles like the same candidates or none in common, and seats that are dealt by weights."""

from pursebench.shares import below, share


def is_lists(heap):
    return all([is_list_in(heap, marks) for weight, marks in heap])


def is_list_in(heap, marks):
    return all([marks == others or has_none_of(marks, others) for weight, others in heap])


def has_none_of(marks, others):
    return not any([candidate in others for candidate in marks])


def dealt(weights, caps, seats):
    counts = [0 for weight in weights]
    last = None
    for seat in range(seats):
        offer = greatest(quotients(weights, caps, counts))
        if offer is None:
            return (counts, last)
        counts[offer[0]] = counts[offer[0]] + 1
        last = offer[1]
    return (counts, last)


# Pairs of a place that may have one more seat, and its weight over its seats with that one.
def quotients(weights, caps, counts):
    return [(place, share(weights[place], count + 1)) for place, count in enumerate(counts) if count < caps[place]]


# The first of like ones, so the least place wins.
def greatest(offers):
    found = None
    for offer in offers:
        if found is None or below(found[1], offer[1]):
            found = offer
    return found
