"""Purses, the rate at which those who like a candidate pay a price, and the rounds."""

from pursebench.piles import liked, likers, weight_at, weight_of
from pursebench.shares import below, common_bottom, least, minus, share, tops_over


def rate(heap, purses, candidate, price):
    places = likers(heap, candidate)
    bottom = common_bottom([purses[place] for place in places])
    tops = tops_over(bottom, [purses[place] for place in places])
    rest = price * bottom
    weight = weight_at(heap, places)
    # The poorest first: who has less than an even part of the rest pays all, and the others share what is left.
    for top, place in sorted(zip(tops, places)):
        if rest <= weight * top:
            return share(rest, weight * bottom)
        rest = rest - heap[place][0] * top
        weight = weight - heap[place][0]
    return None


def paid(heap, purses, candidate, due):
    behind = list(purses)
    for place in likers(heap, candidate):
        behind[place] = purse_behind(purses[place], due)
    return behind


def purse_behind(purse, due):
    if below(purse, due):
        return (0, 1)
    return minus(purse, due)


def first_purses(heap, seats):
    return [(seats, 1) for pile in heap]


def rounds(heap, seats):
    purses = first_purses(heap, seats)
    rows = []
    offer = least(offers(heap, purses, rows))
    while offer is not None:
        purses = paid(heap, purses, offer[0], offer[1])
        rows.append((offer[0], offer[1], purses))
        offer = least(offers(heap, purses, rows))
    return rows


def offers(heap, purses, rows):
    chosen = [row[0] for row in rows]
    price = weight_of(heap)
    rated = [(candidate, rate(heap, purses, candidate, price)) for candidate in liked(heap) if candidate not in chosen]
    return [offer for offer in rated if offer[1] is not None]
