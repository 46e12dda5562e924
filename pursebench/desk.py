"""The desk: rows of words in, texts out, with a hall of its own behind it."""

from pursebench.errors import NoRow
from pursebench.hall import MOST_BALLOTS, Hall

LETTERS = "abcdefghijklmnopqrstuvwxyz"
FIGURES = "0123456789"
SEATS = ("1", "2", "3", "4", "5", "6")
LONGEST_NAME = 8


class Desk:
    def __init__(self):
        self.hall = Hall()

    def say(self, row):
        words = words_of(row)
        if words[0] == "names":
            return " ".join(self.hall.names())
        if words[0] == "heap":
            return self.heap_told()
        if words[0] == "bench":
            return " ".join(self.hall.bench_of(int(words[1])))
        if words[0] == "judge":
            return self.judgement(int(words[1]), words[2:])
        self.obey(words)
        return "ok"

    def obey(self, words):
        if words[0] == "stand":
            self.hall.stand(words[1])
        elif words[0] == "cast":
            self.hall.cast(int(words[1]), words[2:])
        else:
            self.hall.lift(int(words[1]), words[2:])

    def heap_told(self):
        return "; ".join([" ".join([str(weight)] + self.hall.names_of(marks)) for weight, marks in self.hall.heap()])

    def judgement(self, seats, names):
        found = self.hall.judge(seats, names)
        if found is None:
            return "fair"
        return " ".join(["left"] + found[0] + ["/", str(self.weight_by(found[1]))])

    # In a tidied heap no two piles have like marks, so a pile is known by the names of its own.
    def weight_by(self, lists):
        return sum([weight for weight, marks in self.hall.heap() if self.hall.names_of(marks) in lists])


def words_of(row):
    if not isinstance(row, str):
        raise NoRow("a row is a text")
    # Blanks ahead, behind or two in a row leave an empty word, which is none of those that a row has.
    words = row.split(" ")
    if not is_row(words[0], words[1:]):
        raise NoRow("this row is none of those that the desk knows")
    return words


def is_row(head, rest):
    if head == "names" or head == "heap":
        return rest == []
    if head == "stand":
        return len(rest) == 1 and is_name(rest[0])
    if head == "bench":
        return len(rest) == 1 and rest[0] in SEATS
    if head == "judge":
        return rest != [] and rest[0] in SEATS and are_names(rest[1:])
    if head == "cast" or head == "lift":
        return rest != [] and is_ballots(rest[0]) and are_names(rest[1:])
    return False


def are_names(words):
    return all([is_name(word) for word in words]) and len(set(words)) == len(words)


def is_name(word):
    return word != "" and len(word) <= LONGEST_NAME and all([letter in LETTERS for letter in word])


def is_ballots(word):
    # By its length first: Python makes no number of a text with very many figures.
    if word == "" or len(word) > len(str(MOST_BALLOTS)) or word[0] == "0":
        return False
    return all([figure in FIGURES for figure in word]) and int(word) <= MOST_BALLOTS
