"""Money papers: who paid how much for whom, and whether a paper pays."""

from pursebench.piles import liked, likers, weighed, weight_of
from pursebench.purses import first_purses, rounds
from pursebench.shares import common_bottom, divisor, is_whole, minus, tops_over

LAST_CANDIDATE = 5


def paper_of(heap, seats):
    purses = first_purses(heap, seats)
    paper = []
    for candidate, due, behind in rounds(heap, seats):
        paper.append((candidate, [minus(before, after) for before, after in zip(purses, behind)]))
        purses = behind
    return paper


def pays(heap, seats, paper):
    if not is_paper(paper, len(heap)):
        return False
    if not all([is_bought(heap, candidate, amounts) for candidate, amounts in paper]):
        return False
    return leaves_too_little(heap, seats, paper)


# Over one bottom all sums are of whole numbers: no fraction has to be made of the very long ones that a paper may hold.
def is_bought(heap, candidate, amounts):
    places = likers(heap, candidate)
    bottom = common_bottom(amounts)
    tops = tops_over(bottom, amounts)
    strangers = [place for place in range(len(heap)) if place not in places]
    return all([tops[place] == 0 for place in strangers]) and weighed(heap, tops, places) == weight_of(heap) * bottom


def leaves_too_little(heap, seats, paper):
    bottom = bottom_of_paper(paper)
    left = tops_left(heap, seats, paper, bottom)
    price = weight_of(heap) * bottom
    return (all([top >= 0 for top in left])
            and all([weighed(heap, left, likers(heap, other)) < price for other in others(heap, paper)]))


def bottom_of_paper(paper):
    fractions = []
    for candidate, amounts in paper:
        fractions.extend(amounts)
    return common_bottom(fractions)


def tops_left(heap, seats, paper, bottom):
    left = [seats * bottom for pile in heap]
    for candidate, amounts in paper:
        left = [one - other for one, other in zip(left, tops_over(bottom, amounts))]
    return left


def others(heap, paper):
    # For a candidate whom nobody likes nobody has anything left, so those need no look.
    chosen = [entry[0] for entry in paper]
    return [candidate for candidate in liked(heap) if candidate not in chosen]


def is_paper(thing, many):
    if not isinstance(thing, list):
        return False
    seen = []
    for entry in thing:
        if not is_entry(entry, many) or entry[0] in seen:
            return False
        seen.append(entry[0])
    return True


def is_entry(thing, many):
    return isinstance(thing, tuple) and len(thing) == 2 and is_candidate(thing[0]) and is_paid_list(thing[1], many)


def is_candidate(thing):
    return is_whole(thing) and thing >= 0 and thing <= LAST_CANDIDATE


def is_paid_list(thing, many):
    return isinstance(thing, list) and len(thing) == many and all([is_amount(part) for part in thing])


def is_amount(thing):
    if not isinstance(thing, tuple) or len(thing) != 2:
        return False
    top = thing[0]
    bottom = thing[1]
    if not is_whole(top) or not is_whole(bottom):
        return False
    return top >= 0 and bottom >= 1 and divisor(top, bottom) == 1
