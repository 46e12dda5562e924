"""Growth: purses become greater until those who like a candidate can buy it a seat."""

from pursebench.piles import liked, likers, weighed, weight_at, weight_of
from pursebench.shares import common_bottom, least, plus, share, tops_over


def wait(heap, purses, candidate):
    places = likers(heap, candidate)
    bottom = common_bottom(purses)
    missing = weight_of(heap) * bottom - weighed(heap, tops_over(bottom, purses), places)
    if missing <= 0:
        return (0, 1)
    return share(missing, weight_at(heap, places) * bottom)


def grown(heap, purses, members, seats):
    chosen = list(members)
    rows = []
    offer = least(waits(heap, purses, chosen, seats))
    while offer is not None:
        purses = purses_behind(heap, purses, offer)
        rows.append((offer[0], offer[1], purses))
        chosen.append(offer[0])
        offer = least(waits(heap, purses, chosen, seats))
    return rows


def growth(heap, seats):
    return grown(heap, [(0, 1) for pile in heap], [], seats)


def waits(heap, purses, chosen, seats):
    if len(chosen) >= seats:
        return []
    return [(candidate, wait(heap, purses, candidate)) for candidate in liked(heap) if candidate not in chosen]


def purses_behind(heap, purses, offer):
    places = likers(heap, offer[0])
    return [(0, 1) if place in places else plus(purse, offer[1]) for place, purse in enumerate(purses)]
