"""Groups with a claim, and whether a bench shuts one out, passes one over or leaves one out."""

from pursebench.piles import agreed, liked, likers, weight_at, weight_of


def claim(heap, seats, some, group):
    # A claim is to one seat or more, and a group has one pile or more.
    if len(some) == 0 or len(group) == 0:
        return False
    agreeing = agreed(heap, some)
    if not all([place in agreeing for place in group]):
        return False
    return seats * weight_at(heap, group) >= len(some) * weight_of(heap)


def shut_out(heap, seats, members):
    for candidate in liked(heap):
        group = [place for place in likers(heap, candidate) if members_liked(heap, place, members) == []]
        if claim(heap, seats, [candidate], group):
            return ([candidate], group)
    return None


def passed_over(heap, seats, members):
    for some in choices(liked(heap)):
        agreeing = agreed(heap, some)
        # Where all who agree have no claim together, no part of them has one.
        if claim(heap, seats, some, agreeing):
            for few in choices_of(members, min(len(some) - 1, len(members))):
                group = [place for place in agreeing if likes_no_other(heap, place, members, few)]
                if claim(heap, seats, some, group):
                    return (some, group)
    return None


def left_out(heap, seats, members):
    for some in choices(liked(heap)):
        group = [place for place in agreed(heap, some) if len(members_liked(heap, place, members)) < len(some)]
        if claim(heap, seats, some, group):
            return (some, group)
    return None


def members_liked(heap, place, members):
    return [member for member in members if member in heap[place][1]]


def likes_no_other(heap, place, members, few):
    return all([member in few for member in members_liked(heap, place, members)])


# The candidates rise, so every list of some of them does too; the empty one is among them.
def choices(candidates):
    found = [[]]
    for candidate in candidates:
        found = found + [some + [candidate] for some in found]
    return found


def choices_of(candidates, many):
    return [some for some in choices(candidates) if len(some) == many]
