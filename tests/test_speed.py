"""Tests of how long answers take, measured by how long the oracle takes for the same on the same machine."""

import time
import unittest

from lackmark.alike import compare, is_honest
from lackmark.chains import Chain, watch
from lackmark.data import Data
from lackmark.leaving import leanest
from lackmark.marks import Marks
from lackmark.mending import mend
from lackmark.programs import Program
from lackmark.sessions import Session
from lackmark.spoiling import events_of, happen, soonest, stands_of
from lackmark.telling import tell
from lackmark.texts import data_text, read_data
from tests import oracle
from tests.cases import TWELVE, TWENTY_FIVE

STEPS = (("copy", "c", "b"), ("copy", "b", "a"), ("copy", "a", 0), ("plus", "c", "b"), ("most", "c", "a"),
         ("same", "a", "b", 0), ("over", 1, "b", 1), ("tell", "a"))
GREAT = Program(3, Marks((0, 1), (2, 3, 1)), (1, 2, 0), STEPS)

# Two columns, three registers, the greatest top, eight steps, and 186 stands.
GREATEST = Program(4, Marks((4, None), (None, 2, 0)), (0, 4, 2),
                   (("tell", "b"), ("copy", "c", "a"), ("lack", "c", 4), ("most", "a", 1), ("sort", "a", "b"),
                    ("copy", "b", 0), ("lack", 0, 0), ("over", 0, "a", 0)))


def seconds(work):
    """Return how long a function takes, at best, as other things run on the machine, too."""
    found = []
    for _ in range(5):
        begin = time.perf_counter()
        work()
        found.append(time.perf_counter() - begin)
    return min(found)


class TestSpeed(unittest.TestCase):

    def test_great_programs(self):
        known = seconds(lambda: oracle.depths(GREAT))
        once = happen(GREAT)
        for call in [stands_of, events_of, happen, soonest, once.shows]:
            self.assertLess(seconds(lambda: call(GREAT)), known / 2, call)

    def test_small_programs(self):
        some = [oracle.random_program(chance, top=chance.randint(1, 3), registers=chance.randint(1, 2),
                                      many=chance.randint(1, 5)) for chance in oracle.chances(60)]
        known = seconds(lambda: [oracle.depths(program) for program in some])
        for call in [stands_of, events_of, happen, soonest]:
            self.assertLess(seconds(lambda: [call(program) for program in some]), known / 1.5, call)

    def test_greatest_inputs(self):
        # One of these takes a tenth of a second; each may take ten times as long.
        self.assertEqual(len(stands_of(GREATEST)), 186)
        offers = ("own", "b", 2), ("own", "c", 3), ("own", 0, 1), ("mark", 0, 3, 1), ("mark", "b", 1, 9)
        other = GREATEST % Marks((4, 1), (1, 2, 0))
        data = Data([(1, None)] * 300)
        for work in [lambda: mend(GREATEST, offers).shows(GREATEST, offers), lambda: is_honest(GREATEST),
                     lambda: leanest(GREATEST, (0, 1, 2, 3)).shows(GREATEST, (0, 1, 2, 3)),
                     lambda: compare(TWENTY_FIVE, TWELVE).shows(TWENTY_FIVE, TWELVE),
                     lambda: watch(Chain(TWENTY_FIVE, TWELVE)).shows(Chain(TWENTY_FIVE, TWELVE)),
                     lambda: watch(Chain(GREATEST, other)), lambda: tell(GREATEST, (None,) * 8),
                     lambda: read_data(data_text(data, GREATEST.marks), GREATEST.marks)]:
            self.assertLess(seconds(work), 1)

    def test_long_sessions(self):
        session = Session(GREATEST)
        begin = time.perf_counter()
        for at in range(300):
            session += (at % 5, None)
        with session.trial():
            self.assertEqual(len(session.branch().told), 300)
        while len(session) > 0:
            session.undo()
        self.assertEqual(len(session.tried([(1, None)] * 300)), 300)
        self.assertLess(time.perf_counter() - begin, 1)

    def test_what_is_asked_again_is_not_reckoned_anew(self):
        # With five offers for own objects, there are 32 programs; with the same one five times, just two.
        once = seconds(lambda: mend(GREATEST, (("own", 0, 1),)))
        self.assertLess(seconds(lambda: mend(GREATEST, (("own", 0, 1),) * 5)), 5 * once)

    def test_the_same_answers(self):
        self.assertEqual(len(stands_of(GREAT)), 56)
        self.assertEqual(set(stands_of(GREAT)), set(oracle.depths(GREAT)))
        fewest = oracle.fewest(GREAT)
        self.assertEqual(soonest(GREAT), fewest.pop(None))
        self.assertEqual(events_of(GREAT), fewest)


if __name__ == "__main__":
    unittest.main()
