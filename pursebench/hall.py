"""The hall: candidates that stand by names, and the ballots that are cast for them."""

from pursebench.benches import bench
from pursebench.errors import NoName, Taken, TooFew, TooMany
from pursebench.groups import left_out
from pursebench.piles import tidy

MOST_STANDING = 6
MOST_PILES = 12
# 10 ** 18
MOST_BALLOTS = 1000000000000000000


class Hall:
    def __init__(self):
        # A candidate's place here is its number.
        self.standing = []
        # How many ballots lie in each pile, by its marks as a tuple; a pile without ballots is not kept.
        self.ballots = {}

    def stand(self, name):
        if name in self.standing:
            raise Taken("this name stands already")
        if len(self.standing) >= MOST_STANDING:
            raise TooMany("six candidates stand already")
        self.standing.append(name)

    def cast(self, many, names):
        marks = tuple(self.numbers_of(names))
        if marks not in self.ballots and len(self.ballots) >= MOST_PILES:
            raise TooMany("twelve piles with other marks lie here")
        together = self.ballots.get(marks, 0) + many
        if together > MOST_BALLOTS:
            raise TooMany("a pile has at most 10 ** 18 ballots")
        self.lay(marks, together)

    def lift(self, many, names):
        marks = tuple(self.numbers_of(names))
        lying = self.ballots.get(marks, 0)
        if lying < many:
            raise TooFew("fewer ballots lie here by these marks")
        self.lay(marks, lying - many)

    def lay(self, marks, many):
        if many == 0:
            self.ballots.pop(marks, None)
        else:
            self.ballots[marks] = many

    def heap(self):
        return tidy([(many, list(marks)) for marks, many in self.ballots.items()])

    def names(self):
        return list(self.standing)

    def bench_of(self, seats):
        told = bench(self.heap(), seats)
        # The members are told rising; the rows know the order in which they were chosen.
        return self.names_of([row[0] for row in told[1] + told[2]])

    def judge(self, seats, names):
        members = self.numbers_of(names)
        heap = self.heap()
        found = left_out(heap, seats, members)
        if found is None:
            return None
        return (self.names_of(found[0]), [self.names_of(heap[place][1]) for place in found[1]])

    # The numbers rise, in whatever order the names come.
    def numbers_of(self, names):
        if not all([name in self.standing for name in names]):
            raise NoName("no candidate stands by this name")
        return [number for number, name in enumerate(self.standing) if name in names]

    def names_of(self, numbers):
        return [self.standing[number] for number in numbers]
