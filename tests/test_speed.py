"""Tests of how long answers take, measured by how long the oracle takes for the same on the same machine."""

import time
import unittest

from lackmark.marks import Marks
from lackmark.programs import Program
from lackmark.spoiling import events_of, happen, soonest, stands_of
from tests import oracle

STEPS = (("copy", "c", "b"), ("copy", "b", "a"), ("copy", "a", 0), ("plus", "c", "b"), ("most", "c", "a"),
         ("same", "a", "b", 0), ("over", 1, "b", 1), ("tell", "a"))
GREAT = Program(3, Marks((0, 1), (2, 3, 1)), (1, 2, 0), STEPS)


def seconds(work):
    """Return how long a function takes, at best, as other things run on the machine, too."""
    found = []
    for _ in range(5):
        begin = time.perf_counter()
        work()
        found.append(time.perf_counter() - begin)
    return min(found)


class TestSpeed(unittest.TestCase):

    def test_great_programs(self):
        known = seconds(lambda: oracle.depths(GREAT))
        once = happen(GREAT)
        for call in [stands_of, events_of, happen, soonest, once.shows]:
            self.assertLess(seconds(lambda: call(GREAT)), known / 2, call)

    def test_small_programs(self):
        some = [oracle.random_program(chance, top=chance.randint(1, 3), registers=chance.randint(1, 2),
                                      many=chance.randint(1, 5)) for chance in oracle.chances(60)]
        known = seconds(lambda: [oracle.depths(program) for program in some])
        for call in [stands_of, events_of, happen, soonest]:
            self.assertLess(seconds(lambda: [call(program) for program in some]), known / 1.5, call)

    def test_the_same_answers(self):
        self.assertEqual(len(stands_of(GREAT)), 56)
        self.assertEqual(set(stands_of(GREAT)), set(oracle.depths(GREAT)))
        fewest = oracle.fewest(GREAT)
        self.assertEqual(soonest(GREAT), fewest.pop(None))
        self.assertEqual(events_of(GREAT), fewest)


if __name__ == "__main__":
    unittest.main()
