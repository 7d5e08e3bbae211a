"""What several tests need: refusals, and programs with just as many stands, contents and pairs as there may be."""

import unittest

from lackmark.data import Data
from lackmark.errors import BadProgram
from lackmark.marks import Marks
from lackmark.programs import Program
from lackmark.spoiling import Never, Once
from tests.things import all_but

NO_PROGRAMS = all_but() + [Program, (("tell", 0),), Marks((0,), (0,)), Data([]), Never([]), Once(Data([]), {})]

# Reckons with the mark of its column at once, and with the one of its register behind that.
WRONG = Program.of(("plus", "a", 0), ("tell", "a"), begin=(1,))
TOTAL = Program.of(("lack", 0, 1), ("plus", "a", 0), ("tell", "a"), begin=(1,))


def clock(*steps, begin, marks=(None, None, None), columns=(None,)):
    """Return a program with top 4 whose registers are what they are, whatever the rows are."""
    return Program(4, Marks(columns, marks), begin, steps)


# Behind each number of rows other registers, until all is as it was: 25 times (from 0, and from 2), 12 times, and once
# more than 12 times, as the third register has nothing at first.
TWENTY_FIVE = clock(("find", "a", "a", (1, 2, 3, 4, 0)), ("over", "a", "c", 1), ("find", "b", "b", (1, 2, 3, 4, 0)),
                    ("tell", 0), begin=(0, 0, 0))
TWELVE = clock(("find", "a", "a", (1, 2, 3, 0, 0)), ("find", "b", "b", (1, 2, 0, 0, 0)), ("tell", 0), begin=(0, 0, 0))
TWELVE_AND_ONE = clock(("find", "a", "a", (1, 2, 3, 0, 0)), ("find", "b", "b", (1, 2, 0, 0, 0)), ("set", "c", 0),
                       ("tell", 0), begin=(0, 0, None))


class TestCase(unittest.TestCase):

    def assert_refused(self, kind, *calls, about=None):
        """Check that each of these calls raises an error of just this kind, and return the last one."""
        error = None
        for call in calls:
            with self.assertRaises(kind, msg=repr(about)) as caught:
                call()
            error = caught.exception
            self.assertIs(type(error), kind)
        return error

    def assert_no_programs(self, *calls):
        """Check that each of these functions of a program refuses what is none."""
        for thing in NO_PROGRAMS:
            for call in calls:
                error = self.assert_refused(BadProgram, lambda: call(thing), about=thing)
                self.assertIsNone(error.part)

    def assert_equality(self, one, alike, others):
        """Check that one object is equal to another one, and to none of the others, nor to any other thing."""
        self.assertIs(one == alike, True)
        self.assertIs(one != alike, False)
        for other in others + all_but() + [WRONG, Data([]), Never([])]:
            self.assertIs(one == other, False, repr(other))
            self.assertIs(one != other, True, repr(other))

    def assert_methods(self, kind, *names):
        for name in names:
            self.assertIn(name, vars(kind), (kind, name))
