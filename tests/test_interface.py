"""The interface: everything is there under its name, in its module, with its arguments in their order."""

import importlib
import inspect
import unittest

FUNCTIONS = {
    "shares": ["is_whole(thing)", "divisor(one, other)", "share(top, bottom)", "plus(one, other)", "minus(one, other)",
               "times(one, other)", "below(one, other)"],
    "piles": ["weight_of(heap)", "liked(heap)", "likers(heap, candidate)", "agreed(heap, some)", "tidy(heap)"],
    "groups": ["claim(heap, seats, some, group)", "shut_out(heap, seats, members)", "passed_over(heap, seats, members)",
               "left_out(heap, seats, members)"],
    "purses": ["rate(heap, purses, candidate, price)", "paid(heap, purses, candidate, due)", "rounds(heap, seats)"],
    "money": ["paper_of(heap, seats)", "pays(heap, seats, paper)"],
    "growth": ["wait(heap, purses, candidate)", "grown(heap, purses, members, seats)", "growth(heap, seats)"],
    "benches": ["bench(heap, seats)"],
    "dealt": ["is_lists(heap)", "dealt(weights, caps, seats)"],
}
METHODS = {
    ("hall", "Hall"): ["stand(self, name)", "cast(self, many, names)", "lift(self, many, names)", "heap(self)",
                       "names(self)", "bench_of(self, seats)", "judge(self, seats, names)"],
    ("desk", "Desk"): ["say(self, row)"],
}


def written(holder, wanted):
    """What is there under the name, written as the interface writes it."""
    name = wanted.partition("(")[0]
    return name + str(inspect.signature(getattr(holder, name)))


class Interface(unittest.TestCase):
    def test_functions(self):
        for module, wanted in FUNCTIONS.items():
            holder = importlib.import_module("pursebench." + module)
            self.assertEqual([written(holder, one) for one in wanted], wanted)

    def test_classes(self):
        for (module, name), wanted in METHODS.items():
            kind = getattr(importlib.import_module("pursebench." + module), name)
            self.assertIsInstance(kind, type)
            self.assertEqual([written(kind, one) for one in wanted], wanted)
            self.assertIsInstance(kind(), kind)


if __name__ == "__main__":
    unittest.main()
