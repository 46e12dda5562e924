"""The bench: filled by the rounds, and then by growth from the purses behind them."""

from pursebench.growth import grown
from pursebench.purses import first_purses, rounds


def bench(heap, seats):
    bought = rounds(heap, seats)
    chosen = candidates_of(bought)
    added = grown(heap, last_purses(heap, seats, bought), sorted(chosen), seats)
    return (sorted(chosen + candidates_of(added)), bought, added)


def last_purses(heap, seats, rows):
    if rows == []:
        return first_purses(heap, seats)
    return rows[-1][2]


def candidates_of(rows):
    return [row[0] for row in rows]
