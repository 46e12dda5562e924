"""Whole numbers and fractions: tuples (top, bottom) in lowest terms, the bottom from 1 on."""

from pursebench.errors import NoShare


def is_whole(thing):
    # Python counts True and False among the ints; here they are no numbers.
    return isinstance(thing, int) and not isinstance(thing, bool)


def divisor(one, other):
    greater = abs(one)
    rest = abs(other)
    while rest != 0:
        remainder = greater % rest
        greater = rest
        rest = remainder
    return greater


def share(top, bottom):
    if bottom == 0:
        raise NoShare("a fraction's bottom is not 0")
    common = divisor(top, bottom)
    # The sign belongs to the top, so a bottom below 0 turns both.
    if bottom < 0:
        common = -common
    return (top // common, bottom // common)


def plus(one, other):
    return share(one[0] * other[1] + other[0] * one[1], one[1] * other[1])


def minus(one, other):
    return share(one[0] * other[1] - other[0] * one[1], one[1] * other[1])


def times(one, other):
    return share(one[0] * other[0], one[1] * other[1])


def below(one, other):
    # Bottoms are above 0, so multiplying by both keeps the order.
    return one[0] * other[1] < other[0] * one[1]


def common_bottom(fractions):
    bottom = 1
    for top, own in fractions:
        bottom = bottom * (own // divisor(bottom, own))
    return bottom


def tops_over(bottom, fractions):
    return [top * (bottom // own) for top, own in fractions]


# Of pairs (candidate, fraction) the first with the least fraction, so that where candidates rise the least number wins.
def least(offers):
    found = None
    for offer in offers:
        if found is None or below(offer[1], found[1]):
            found = offer
    return found
