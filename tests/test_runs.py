"""Tests of lackmark.runs."""

import itertools
import types
import unittest

from lackmark import runs
from lackmark.data import Data
from lackmark.errors import BadData, BadProgram, BadRow, BadStand
from lackmark.marks import Marks
from lackmark.programs import Program
from lackmark.runs import first_contents, first_stand, plain_after, taken, true_after, walk, written
from tests import oracle
from tests.things import Whole, all_but

NO_PROGRAMS = all_but() + [Program, (("tell", 0),), Marks((0,), (0,)), Data([])]
NO_STANDS = all_but() + [[1, 1], (1, 1, 1), (3, 1), (1, 3), (1, -1), (True, 1), (1, False), ("1", 1),
                         (1, (1,)), ([], 1), {0: 1, 1: 1}, "ab", Data.of((1, 1))]
NO_ROWS = [thing for thing in all_but() if repr(thing) not in ("(1,)", "(None,)")]
NO_ROWS = NO_ROWS + [(1, 1), (3,), (-1,), (False,), ("1",), ((1,),), ([],), Data.of((1,))]


def one_step(step, *more, top=4, marks=Marks((0, 1), (0, 1, 2))):
    """Return a program with a step, and two columns and three registers with other marks each."""
    return Program(top, marks, (None,) * len(marks.registers), (step,) + more)


class TestCase(unittest.TestCase):

    def assert_true(self, step, stand, row, after, *events, told=(), **others):
        """Do a step truly; the events are given without its index."""
        due = (after, list(told), [(0, word, place) for word, place in events])
        self.assertEqual(true_after(one_step(step, **others), stand, row), due, (step, stand, row))

    def assert_plain(self, step, contents, row, after, told=(), **others):
        self.assertEqual(plain_after(one_step(step, **others), contents, row), (after, list(told)),
                         (step, contents, row))


class TestExamples(TestCase):

    def test_document(self):
        total = Program.of(('lack', 0, 1), ('plus', 'a', 0), ('tell', 'a'), begin=(1,))
        wrong = Program.of(('plus', 'a', 0), ('tell', 'a'), begin=(1,))
        found = [true_after(total, (1,), (0,)), plain_after(total, (1,), (0,)), true_after(wrong, (2,), (None,)),
                 plain_after(wrong, (2,), (None,))]
        self.assertEqual(found, [((1,), [1], [(0, 'met', 0), (1, 'met', 0)]), ((1,), [1]),
                                 ((None,), [None], [(0, 'reckoned', 0)]), ((2,), [2])])
        found = [taken(wrong, (0,)), written(wrong, (None,)), list(walk(wrong, Data.of((None,))))]
        self.assertEqual(found, [(None,), (0,), [((1,), (None,), [1], [(0, 'reckoned', 0)])]])


class TestInterface(TestCase):

    def test_defined_here(self):
        for name in ["first_stand", "first_contents", "true_after", "plain_after", "written", "taken", "walk"]:
            self.assertEqual(getattr(runs, name).__module__, "lackmark.runs")

    def test_names_of_parameters(self):
        program = Program.of(("tell", 0), begin=(1,))
        self.assertEqual([first_stand(program=program), first_contents(program=program)], [(1,), (1,)])
        self.assertEqual(true_after(program=program, stand=(1,), row=(2,)), ((1,), [2], []))
        self.assertEqual(plain_after(program=program, contents=(1,), row=(2,)), ((1,), [2]))
        self.assertEqual([written(program=program, stand=(1,)), taken(program=program, contents=(1,))], [(1,), (1,)])
        self.assertEqual(list(walk(program=program, data=Data([]))), [])

    def test_walk_is_a_generator(self):
        self.assertIsInstance(walk(Program.of(("tell", 0)), Data([])), types.GeneratorType)

    def test_kinds_of_what_is_returned(self):
        program = Program.of(("tell", 0), begin=(1,))
        for found in [true_after(program, (1,), (0,)), plain_after(program, (1,), (0,)),
                      next(walk(program, Data.of((0,))))]:
            self.assertIs(type(found), tuple)
            for part in found:
                self.assertIn(type(part), [tuple, list])


class TestBeginnings(TestCase):

    def test_first_ones(self):
        for begin, contents in [((None, None), (0, None)), ((1, 0), (1, 0)), ((2, None), (2, None)),
                                ((None, 1), (0, 1))]:
            program = Program.of(("tell", 0), marks=Marks((2,), (0, None)), begin=begin)
            self.assertEqual([first_stand(program), first_contents(program)], [begin, contents])

    def test_written(self):
        program = Program.of(("tell", 0), marks=Marks((1,), (2, None, 0)), begin=(None,) * 3)
        for stand, due in [((None, None, None), (2, None, 0)), ((2, 0, 0), (2, 0, 0)), ((0, 2, None), (0, 2, 0)),
                           ((1, None, 1), (1, None, 1)), ((None, 1, 2), (2, 1, 2))]:
            self.assertEqual(written(program, stand), due)

    def test_taken(self):
        program = Program.of(("tell", 0), marks=Marks((1,), (2, None, 0)), begin=(None,) * 3)
        for contents, due in [((2, None, 0), (None, None, None)), ((None, None, None), (None, None, None)),
                              ((0, 0, 2), (0, 0, 2)), ((1, 2, 1), (1, 2, 1)), ((2, 2, 2), (None, 2, 2))]:
            self.assertEqual(taken(program, contents), due)

    def test_there_and_back(self):
        for chance in oracle.chances(60):
            program = oracle.random_program(chance)
            for stand in oracle.all_stands(program):
                met = any(worth is not None and worth == mark for worth, mark in zip(stand, program.marks.registers))
                self.assertIs(taken(program, written(program, stand)) == stand, not met)


class TestCopiesAndTurns(TestCase):

    def test_copied_truly(self):
        self.assert_true(("copy", "a", "b"), (3, 4, None), (None, None), (4, 4, None))
        self.assert_true(("copy", "a", 0), (3, 4, 2), (1, None), (1, 4, 2))
        self.assert_true(("copy", "a", "a"), (3, 4, None), (None, None), (3, 4, None))

    def test_met_by_a_copy(self):
        self.assert_true(("copy", "b", 0), (3, 4, None), (0, None), (3, 0, None), ("met", 0))
        self.assert_true(("copy", "b", 0), (3, 4, None), (1, None), (3, 1, None), ("met", "b"))
        self.assert_true(("copy", "a", 0), (3, 4, None), (0, None), (0, 4, None), ("met", 0), ("met", "a"))
        self.assert_true(("copy", "a", "a"), (0, 4, None), (None, None), (0, 4, None), ("met", "a"))
        self.assert_true(("copy", "c", "a"), (0, 4, 1), (None, None), (0, 4, 0))

    def test_strayed(self):
        self.assert_true(("copy", "b", 0), (3, 4, None), (None, None), (3, None, None), ("strayed", 0))
        self.assert_true(("copy", "a", 0), (3, 4, None), (None, None), (None, 4, None))
        self.assert_true(("copy", "a", "c"), (3, 4, None), (None, None), (None, 4, None), ("strayed", "c"))
        self.assert_true(("copy", "b", 1), (3, 4, None), (None, None), (3, None, None))
        self.assert_true(("copy", "a", "a"), (None, 4, 3), (None, None), (None, 4, 3))

    def test_strayed_from_and_to_own_objects(self):
        for one, other in itertools.product([None, 0, 1], repeat=2):
            events = [] if one == other else [("strayed", 0)]
            self.assert_true(("copy", "a", 0), (3,), (None,), (None,), *events, marks=Marks((one,), (other,)))
            self.assert_plain(("copy", "a", 0), (3,), (None,), (one,), marks=Marks((one,), (other,)))

    def test_turned_truly(self):
        self.assert_true(("turn", "b", 0), (3, 4, None), (None, None), (3, None, None))
        self.assert_true(("turn", "b", 0), (3, 4, None), (0, None), (3, 0, None), ("met", 0))
        self.assert_true(("turn", "b", 0), (3, 4, None), (1, None), (3, 1, None), ("met", "b"))
        self.assert_true(("turn", "a", "c"), (3, 4, 0), (None, None), (0, 4, 0), ("met", "a"))
        self.assert_true(("turn", "c", "b"), (3, 1, 0), (None, None), (3, 1, 1))

    def test_copied_plainly(self):
        self.assert_plain(("copy", "b", 0), (3, 4, 2), (None, None), (3, 0, 2))
        self.assert_plain(("copy", "b", 0), (3, 4, 2), (0, None), (3, 0, 2))
        self.assert_plain(("copy", "a", "c"), (3, 4, 2), (None, None), (2, 4, 2))
        self.assert_plain(("copy", "a", "c"), (3, 4, None), (None, None), (None, 4, None))
        self.assert_plain(("copy", "a", 1), (3, 4, 2), (None, None), (1, 4, 2))

    def test_turned_plainly(self):
        self.assert_plain(("turn", "b", 0), (3, 4, 2), (None, None), (3, 1, 2))
        self.assert_plain(("turn", "b", 0), (3, 4, 2), (0, None), (3, 1, 2))
        self.assert_plain(("turn", "b", 0), (3, 4, 2), (1, None), (3, 1, 2))
        self.assert_plain(("turn", "a", "c"), (3, 4, 2), (None, None), (0, 4, 2))
        self.assert_plain(("turn", "a", "c"), (3, 4, None), (None, None), (0, 4, None))
        self.assert_plain(("turn", "a", "c"), (3, 4, 0), (None, None), (0, 4, 0))
        self.assert_plain(("turn", "a", 0), (3,), (None,), (None,), marks=Marks((2,), (None,)))


class TestReckoning(TestCase):

    def test_numbers(self):
        found = {"plus": [4, 4, 4, 4, 3, 4], "less": [0, 2, 0, 3, 0, 0], "most": [4, 3, 3, 4, 2, 2],
                 "least": [2, 1, 3, 1, 1, 2]}
        pairs = [(2, 4), (3, 1), (3, 3), (4, 1), (1, 2), (2, 2)]
        for word, due in found.items():
            for (one, other), number in zip(pairs, due):
                for marks in [Marks((None,), (None, None)), Marks((0,), (None, 0)), Marks((1,), (2, 3))]:
                    after, told, events = true_after(one_step((word, "b", "a"), marks=marks), (other, one), (None,))
                    self.assertEqual(after, (other, number), (word, one, other))
                    self.assert_plain((word, "b", "a"), (other, one), (None,), (other, number), marks=marks)

    def test_at_most_the_top(self):
        for top, one, other in itertools.product([1, 2, 3, 4], range(5), range(5)):
            if one <= top and other <= top:
                program = one_step(("plus", "a", 0), top=top, marks=Marks((None,), (None,)))
                self.assertEqual(true_after(program, (one,), (other,)), ((min(top, one + other),), [], []))

    def test_operands_that_are_empty(self):
        for word in ["plus", "less", "most", "least"]:
            self.assert_true((word, "a", 0), (3, 4, 4), (None, None), (None, 4, 4), ("reckoned", 0))
            self.assert_true((word, "a", 0), (None, 4, 4), (2, None), (None, 4, 4), ("reckoned", "a"))
            self.assert_true((word, "a", 0), (None, 4, 4), (None, None), (None, 4, 4), ("reckoned", "a"),
                             ("reckoned", 0))
            self.assert_true((word, "a", "a"), (None, 4, 4), (None, None), (None, 4, 4), ("reckoned", "a"),
                             ("reckoned", "a"))
            self.assert_true((word, "a", 0), (None, 4, 4), (0, None), (None, 4, 4), ("met", 0), ("reckoned", "a"))

    def test_operands_that_are_own_objects(self):
        for word in ["plus", "less", "most", "least"]:
            for stand, row in [((None,), (1,)), ((1,), (None,)), ((None,), (None,))]:
                self.assert_true((word, "a", 0), stand, row, (None,), marks=Marks((None,), (None,)))
                self.assert_plain((word, "a", 0), stand, row, (None,), marks=Marks((None,), (None,)))
            self.assert_true((word, "a", 0), (1,), (None,), (None,), marks=Marks((None,), (2,)))
            self.assert_plain((word, "a", 0), (1,), (None,), (2,), marks=Marks((None,), (2,)))
            self.assert_true((word, "a", 0), (None,), (1,), (None,), ("reckoned", "a"), marks=Marks((None,), (2,)))
            self.assert_plain((word, "a", 0), (None,), (1,), (2,), marks=Marks((1,), (2,)))

    def test_marks_are_reckoned_with_plainly(self):
        self.assert_plain(("plus", "b", 1), (0, 1, 2), (None, None), (0, 2, 2))
        self.assert_plain(("less", "c", 1), (0, 1, 2), (None, None), (0, 1, 1))
        self.assert_plain(("most", "a", 1), (0, 1, 2), (None, None), (1, 1, 2))
        self.assert_plain(("least", "c", 0), (0, 1, 2), (None, None), (0, 1, 0))

    def test_met_by_what_is_reckoned(self):
        self.assert_true(("plus", "c", 1), (3, 4, 0), (None, 2), (3, 4, 2), ("met", "c"))
        self.assert_true(("less", "a", 0), (3, 4, 0), (3, None), (0, 4, 0), ("met", "a"))
        self.assert_true(("most", "b", 0), (3, 0, 0), (1, None), (3, 1, 0), ("met", "b"))
        self.assert_true(("least", "b", 0), (3, 4, 4), (1, None), (3, 1, 4), ("met", "b"))
        self.assert_true(("least", "b", 1), (3, 4, 4), (None, 1), (3, 1, 4), ("met", 1), ("met", "b"))
        self.assert_true(("plus", "c", "c"), (3, 4, 1), (None, None), (3, 4, 2), ("met", "c"))
        self.assert_true(("plus", "c", "c"), (3, 4, 2), (None, None), (3, 4, 4))


class TestSorting(TestCase):

    def test_exchanged(self):
        self.assert_true(("sort", "a", "b"), (4, 3, None), (None, None), (3, 4, None))
        self.assert_true(("sort", "c", "a"), (3, 0, 4), (None, None), (4, 0, 3))
        self.assert_plain(("sort", "a", "b"), (4, 3, 2), (None, None), (3, 4, 2))

    def test_not_exchanged(self):
        for stand in [(3, 4, None), (3, 3, None), (0, 0, 0), (0, 1, 1)]:
            self.assert_true(("sort", "a", "b"), stand, (None, None), stand)
            self.assert_plain(("sort", "a", "b"), stand, (None, None), stand)

    def test_met(self):
        self.assert_true(("sort", "a", "b"), (3, 0, 4), (None, None), (0, 3, 4), ("met", "a"))
        self.assert_true(("sort", "c", "a"), (2, 0, 3), (None, None), (3, 0, 2), ("met", "c"))
        self.assert_true(("sort", "b", "c"), (0, 2, 1), (None, None), (0, 1, 2), ("met", "b"), ("met", "c"))
        self.assert_true(("sort", "c", "b"), (0, 0, 4), (None, None), (0, 4, 0))
        self.assert_true(("sort", "c", "b"), (0, 2, 4), (None, None), (0, 4, 2), ("met", "c"))
        self.assert_true(("sort", "b", "c"), (0, 2, 0), (None, None), (0, 0, 2), ("met", "c"))

    def test_operands_that_are_empty(self):
        for stand, places in [((None, 3, 4), "a"), ((4, None, 4), "b"), ((None, None, 4), "ab")]:
            events = [("reckoned", place) for place in places]
            self.assert_true(("sort", "a", "b"), stand, (None, None), stand, *events)
        self.assert_true(("sort", "b", "a"), (None, None, 4), (None, None), (None, None, 4), ("reckoned", "b"),
                         ("reckoned", "a"))

    def test_marks_are_sorted_plainly(self):
        self.assert_plain(("sort", "b", "a"), (0, 1, 2), (None, None), (1, 0, 2))
        self.assert_plain(("sort", "c", "b"), (0, 1, 2), (None, None), (0, 2, 1))

    def test_own_objects(self):
        marks = Marks((0,), (None, None))
        for stand in [(None, 3), (3, None), (None, None)]:
            self.assert_true(("sort", "a", "b"), stand, (None,), stand, marks=marks)
            self.assert_plain(("sort", "a", "b"), stand, (None,), stand, marks=marks)
            self.assert_plain(("sort", "a", "b"), stand, (None,), stand, marks=Marks((0,), (1, 2)))


class TestFinding(TestCase):

    def test_each_item(self):
        table = (4, None, 3, 3, 1)
        for number, worth in enumerate(table):
            self.assert_true(("find", "a", "c", table), (0, 4, number), (None, None), (worth, 4, number))
            self.assert_plain(("find", "a", "c", table), (0, 4, number), (None, None), (worth or 0, 4, number))

    def test_by_its_own_number(self):
        self.assert_true(("find", "a", "a", (1, 2, 3, 4, None)), (3, 4, 2), (None, None), (4, 4, 2))
        self.assert_true(("find", "a", "a", (1, 2, 3, 4, None)), (4, 4, 2), (None, None), (None, 4, 2))
        self.assert_plain(("find", "a", "a", (1, 2, 3, 4, None)), (4, 4, 2), (None, None), (0, 4, 2))

    def test_met(self):
        table = (1, 0, 0, 0, None)
        self.assert_true(("find", "b", 0, table), (3, 4, 4), (0, None), (3, 1, 4), ("met", 0), ("met", "b"))
        self.assert_true(("find", "b", 0, table), (3, 4, 4), (1, None), (3, 0, 4))
        self.assert_true(("find", "a", 0, table), (3, 4, 4), (1, None), (0, 4, 4), ("met", "a"))
        self.assert_true(("find", "a", 0, table), (3, 4, 4), (4, None), (None, 4, 4))

    def test_an_operand_that_is_empty(self):
        self.assert_true(("find", "a", 1, (4,) * 5), (None, 4, 4), (None, None), (None, 4, 4), ("reckoned", 1))
        self.assert_true(("find", "a", "a", (4,) * 5), (None, 4, 4), (None, None), (None, 4, 4), ("reckoned", "a"))
        self.assert_true(("find", "a", 0, (4,) * 5), (3,), (None,), (None,), marks=Marks((None,), (1,)))

    def test_the_register_that_gets_is_no_operand(self):
        self.assert_true(("find", "a", 0, (4,) * 5), (None, 4, 4), (2, None), (4, 4, 4))
        self.assert_plain(("find", "a", 0, (4,) * 5), (None,), (2,), (4,), marks=Marks((1,), (None,)))

    def test_marks_are_looked_up_plainly(self):
        self.assert_plain(("find", "c", 1, (0, 4, 0, 0, 0)), (0, 1, 2), (None, None), (0, 1, 4))
        self.assert_plain(("find", "a", "c", (1, 1, 3, 1, 1)), (0, 1, 2), (None, None), (3, 1, 2))
        self.assert_plain(("find", "a", 0, (1, 1, 3, 1, 1)), (0,), (None,), (2,), marks=Marks((None,), (2,)))


class TestSetting(TestCase):

    def test_set(self):
        for register, at in [("a", 0), ("b", 1), ("c", 2)]:
            for worth in [None, 0, 1, 2, 3, 4]:
                after = tuple(worth if index == at else 4 for index in range(3))
                events = [("met", register)] if worth == at else []
                self.assert_true(("set", register, worth), (4, 4, 4), (0, 1), after, *events)
                stood = tuple(at if worth is None else worth for worth in after)
                self.assert_plain(("set", register, worth), (4, 4, 4), (0, 1), stood)

    def test_own_object(self):
        self.assert_plain(("set", "a", None), (4,), (0,), (None,), marks=Marks((0,), (None,)))
        self.assert_true(("set", "a", None), (4,), (0,), (None,), marks=Marks((0,), (None,)))

    def test_else_where_the_register_is_empty(self):
        self.assert_true(("else", "a", 0), (None, 4, 4), (3, None), (3, 4, 4))
        self.assert_true(("else", "b", 0), (4, None, 4), (None, None), (4, None, 4))
        self.assert_true(("else", "a", 0), (None, 4, 4), (0, None), (0, 4, 4), ("met", 0), ("met", "a"))
        self.assert_true(("else", "b", 0), (4, None, 4), (0, None), (4, 0, 4), ("met", 0))
        self.assert_true(("else", "b", 0), (4, None, 4), (1, None), (4, 1, 4), ("met", "b"))
        self.assert_true(("else", "b", "b"), (4, None, 4), (1, None), (4, None, 4))

    def test_else_where_the_register_is_not_empty(self):
        self.assert_true(("else", "a", 0), (2, 4, 4), (0, None), (2, 4, 4))
        self.assert_true(("else", "a", 0), (0, 4, 4), (0, None), (0, 4, 4))
        self.assert_true(("else", "a", "a"), (0, 4, 4), (0, None), (0, 4, 4))
        self.assert_true(("else", "b", 0), (2, 4, 4), (None, None), (2, 4, 4))

    def test_else_plainly(self):
        self.assert_plain(("else", "b", 0), (0, 1, 2), (3, None), (0, 3, 2))
        self.assert_plain(("else", "b", 0), (0, None, 2), (3, None), (0, 3, 2))
        self.assert_plain(("else", "b", 0), (0, 1, 2), (None, None), (0, 1, 2))
        self.assert_plain(("else", "b", 0), (0, None, 2), (None, None), (0, 1, 2))
        self.assert_plain(("else", "b", 0), (0, None, 2), (0, None), (0, 1, 2))
        self.assert_plain(("else", "b", 0), (0, 0, 2), (3, None), (0, 0, 2))
        self.assert_plain(("else", "b", "b"), (0, None, 2), (3, None), (0, 1, 2))


class TestSkipping(TestCase):

    def skips(self, step, stand, row, *events, **others):
        """Return whether a step skips the next one of two, which are told, truly and plainly."""
        program = one_step(step, ("tell", "a"), ("tell", "a"), ("tell", "a"), **others)
        _, told, happened = true_after(program, stand, row)
        self.assertEqual(happened, [(0, word, place) for word, place in events], (step, stand, row))
        return len(told) == 2, len(plain_after(program, written(program, stand), row)[1]) == 2

    def test_lack(self):
        for place, stand, row, met in [(0, (4, 4, 4), (0, 4), [0]), (1, (4, 4, 4), (4, 1), [1]),
                                       ("a", (0, 4, 4), (4, 4), []), ("c", (4, 4, 2), (4, 4), [])]:
            events = [("met", column) for column in met]
            self.assertEqual(self.skips(("lack", place, 1), stand, row, *events), (False, True))
        for place in [0, 1, "a", "b", "c"]:
            self.assertEqual(self.skips(("lack", place, 1), (None, None, None), (None, None)), (True, True))
            self.assertEqual(self.skips(("lack", place, 1), (4, 4, 4), (4, 4)), (False, False))

    def test_lack_of_own_objects(self):
        program = one_step(("lack", "a", 1), ("tell", 0), marks=Marks((4,), (0,)))
        self.assertEqual(plain_after(program, (None,), (1,)), ((None,), []))
        self.assertEqual(plain_after(program, (0,), (1,)), ((0,), []))
        self.assertEqual(plain_after(program, (1,), (1,)), ((1,), [1]))

    def test_same(self):
        self.assertEqual(self.skips(("same", 0, "b", 1), (4, 3, 4), (3, 4)), (True, True))
        self.assertEqual(self.skips(("same", 0, "b", 1), (4, 3, 4), (2, 4)), (False, False))
        self.assertEqual(self.skips(("same", 0, "a", 1), (None, 3, 4), (None, 4)), (True, True))
        self.assertEqual(self.skips(("same", 0, "a", 1), (4, 3, 4), (None, 4)), (False, False))
        self.assertEqual(self.skips(("same", 0, "a", 1), (0, 3, 4), (None, 4)), (False, True))
        self.assertEqual(self.skips(("same", 0, "a", 1), (None, 3, 4), (0, 4), ("met", 0)), (False, True))

    def test_same_with_other_marks(self):
        self.assertEqual(self.skips(("same", 0, "b", 1), (4, None, 4), (None, 4), ("reckoned", 0), ("reckoned", "b")),
                         (True, False))
        self.assertEqual(self.skips(("same", "b", 0, 1), (4, None, 4), (None, 4), ("reckoned", "b"), ("reckoned", 0)),
                         (True, False))
        self.assertEqual(self.skips(("same", "b", 0, 1), (4, 0, 4), (None, 4), ("reckoned", 0)), (False, True))
        self.assertEqual(self.skips(("same", 0, 1, 1), (4, 4, 4), (None, 1), ("met", 1), ("reckoned", 0)),
                         (False, False))
        self.assertEqual(self.skips(("same", 1, 0, 1), (4, 4, 4), (1, 1), ("met", 1)), (True, True))
        self.assertEqual(self.skips(("same", 1, 0, 1), (4, 4, 4), (0, 1), ("met", 1), ("met", 0)), (False, False))
        self.assertEqual(self.skips(("same", 0, 1, 1), (4, 4, 4), (0, 1), ("met", 0), ("met", 1)), (False, False))

    def test_same_with_own_objects(self):
        for one, other in itertools.product([None, 0, 1], repeat=2):
            events = [] if one == other else [("reckoned", "a"), ("reckoned", 0)]
            found = self.skips(("same", "a", 0, 1), (None,), (None,), *events, marks=Marks((other,), (one,)))
            self.assertEqual(found, (True, one == other))

    def test_over(self):
        self.assertEqual(self.skips(("over", "a", 0, 1), (4, 4, 4), (3, 4)), (True, True))
        self.assertEqual(self.skips(("over", "a", 0, 1), (3, 4, 4), (3, 4)), (False, False))
        self.assertEqual(self.skips(("over", "a", 0, 1), (2, 4, 4), (3, 4)), (False, False))
        self.assertEqual(self.skips(("over", "a", 0, 1), (2, 4, 4), (0, 4), ("met", 0)), (True, True))
        self.assertEqual(self.skips(("over", 1, 0, 1), (4, 4, 4), (0, 1), ("met", 1), ("met", 0)), (True, True))

    def test_over_with_what_is_empty(self):
        self.assertEqual(self.skips(("over", "a", 0, 1), (4, 4, 4), (None, 4), ("reckoned", 0)), (False, True))
        self.assertEqual(self.skips(("over", "a", 0, 1), (None, 4, 4), (0, 4), ("met", 0), ("reckoned", "a")),
                         (False, False))
        self.assertEqual(self.skips(("over", 1, 0, 1), (4, 4, 4), (None, None), ("reckoned", 1), ("reckoned", 0)),
                         (False, True))
        for stand, row in [((None,), (None,)), ((4,), (None,)), ((None,), (0,))]:
            self.assertEqual(self.skips(("over", "a", 0, 1), stand, row, marks=Marks((None,), (None,))),
                             (False, False))

    def test_each_number_of_steps(self):
        tells = [("set", "a", number) for number in [1, 2, 3, 4]]
        for many in range(5):
            program = one_step(("lack", 0, many), *tells, marks=Marks((None,), (None,)))
            events = [word for _, word, _ in true_after(program, (None,), (None,))[2]]
            self.assertEqual(events, [])
            due = (None,) if many == 4 else (4,)
            self.assertEqual(true_after(program, (None,), (None,))[0], due)
            self.assertEqual(plain_after(program, (None,), (None,))[0], due)
            told = one_step(("lack", 0, many), *[("tell", "a")] * 4)
            self.assertEqual(len(true_after(told, (1, 2, 3), (None, None))[1]), 4 - many)
            self.assertEqual(len(plain_after(told, (1, 2, 3), (None, None))[1]), 4 - many)

    def test_skips_behind_the_last_step(self):
        program = Program.of(("tell", "a"), ("lack", 0, 2), ("tell", 0), ("tell", "a"))
        self.assertEqual(program(Data.of((None,), (1,))), [[None], [None, 1, None]])
        self.assertEqual(true_after(program, (1,), (None,)), ((1,), [1], []))

    def test_nothing_happens_at_skipped_steps(self):
        program = Program.of(("lack", 0, 2), ("plus", "a", 0), ("tell", 0), ("tell", "a"))
        self.assertEqual(true_after(program, (None,), (None,)), ((None,), [None], []))

    def test_skips_within_skipped_steps(self):
        program = Program.of(("lack", "a", 1), ("lack", 0, 2), ("tell", 0), ("tell", "a"), marks=Marks((0,), (0,)))
        self.assertEqual(true_after(program, (None,), (None,)), ((None,), [None, None], []))


class TestTelling(TestCase):

    def test_told_truly(self):
        self.assert_true(("tell", 0), (4, 4, 4), (3, None), (4, 4, 4), told=[3])
        self.assert_true(("tell", 0), (4, 4, 4), (None, 3), (4, 4, 4), told=[None])
        self.assert_true(("tell", 0), (4, 4, 4), (0, 3), (4, 4, 4), ("met", 0), told=[0])
        self.assert_true(("tell", "b"), (4, 1, 4), (0, 1), (4, 1, 4), told=[1])
        self.assert_true(("tell", "b"), (4, None, 4), (0, 1), (4, None, 4), told=[None])

    def test_told_plainly(self):
        self.assert_plain(("tell", 1), (4, 4, 4), (None, 0), (4, 4, 4), told=[0])
        self.assert_plain(("tell", 1), (4, 4, 4), (0, None), (4, 4, 4), told=[None])
        self.assert_plain(("tell", 1), (4, 4, 4), (0, 1), (4, 4, 4), told=[None])
        self.assert_plain(("tell", "c"), (4, 4, 2), (0, 1), (4, 4, 2), told=[None])
        self.assert_plain(("tell", "c"), (4, 4, None), (0, 1), (4, 4, None), told=[None])
        self.assert_plain(("tell", "c"), (4, 4, 1), (0, 1), (4, 4, 1), told=[1])

    def test_in_the_order_of_the_steps(self):
        program = one_step(("tell", 0), ("set", "a", 1), ("tell", "a"), ("tell", 0), ("tell", "a"))
        self.assertEqual(true_after(program, (3, 3, 3), (2, 2)), ((1, 3, 3), [2, 1, 2, 1], []))


class TestSeveralSteps(TestCase):

    def test_order_of_events(self):
        program = Program.of(("sort", "a", "b"), ("over", 1, 0, 1), ("set", "c", 2), ("plus", "c", 1),
                             ("copy", "a", "c"), ("tell", 0), top=4, marks=Marks((0, 1), (0, 1, 2)), begin=(None,) * 3)
        self.assertEqual(true_after(program, (1, 0, 3), (None, 1)),
                         ((3, 1, 3), [None], [(0, "met", "a"), (0, "met", "b"), (1, "met", 1), (1, "reckoned", 0),
                                              (2, "met", "c"), (3, "met", 1)]))

    def test_numbers_that_are_marks_stay_numbers_truly(self):
        program = Program.of(("turn", "a", 0), ("lack", "a", 1), ("plus", "a", "a"), ("tell", "a"))
        self.assertEqual(true_after(program, (None,), (0,)),
                         ((0,), [0], [(0, "met", 0), (0, "met", "a"), (2, "met", "a")]))

    def test_registers_keep_what_they_have(self):
        program = Program.of(("tell", "a"), ("copy", "a", 0), marks=Marks((0,), (0,)))
        self.assertEqual(program(Data.of((1,), (None,), (2,), (0,), (1,))), [[None], [1], [None], [2], [None]])

    def test_as_the_document_says(self):
        for chance in oracle.chances(500):
            program = oracle.random_program(chance)
            for _ in range(15):
                stand = oracle.random_worths(chance, program.top, len(program.begin))
                row = oracle.random_worths(chance, program.top, len(program.marks.columns))
                about = (program.top, program.marks.columns, program.marks.registers, program.steps, stand, row)
                self.assertEqual(true_after(program, stand, row), oracle.true_run(program, stand, row), about)
                self.assertEqual(plain_after(program, stand, row), oracle.plain_run(program, stand, row), about)

    def test_without_events_all_is_told_truly(self):
        seen = 0
        for chance in oracle.chances(300):
            program = oracle.random_program(chance)
            contents, stand = first_contents(program), first_stand(program)
            for _ in range(12):
                row = chance.choice(oracle.all_rows(program))
                stand, told, events = true_after(program, stand, row)
                contents, plainly = plain_after(program, contents, row)
                if events:
                    break
                seen += 1
                self.assertEqual([plainly, contents], [told, written(program, stand)], (program.steps, row))
        self.assertGreater(seen, 300)

    def test_own_objects_run_truly(self):
        for chance in oracle.chances(200):
            program = oracle.random_program(chance)
            stand = oracle.random_worths(chance, program.top, len(program.begin))
            row = oracle.random_worths(chance, program.top, len(program.marks.columns))
            after, told, _ = true_after(program, stand, row)
            self.assertEqual(plain_after(~program, stand, row), (after, told))
            self.assertEqual(true_after(~program, stand, row), (after, told, []))


class TestWrongArguments(TestCase):

    def assert_no_program(self, call):
        for thing in NO_PROGRAMS:
            with self.assertRaises(BadProgram, msg=repr(thing)) as caught:
                call(thing)
            self.assertIsNone(caught.exception.part)

    def test_programs(self):
        for call in [first_stand, first_contents, lambda thing: true_after(thing, (1,), (1,)),
                     lambda thing: plain_after(thing, (1,), (1,)), lambda thing: written(thing, (1,)),
                     lambda thing: taken(thing, (1,)), lambda thing: list(walk(thing, Data([])))]:
            self.assert_no_program(call)

    def test_programs_before_stands_and_rows(self):
        for call in [lambda thing: true_after(thing, None, None), lambda thing: plain_after(thing, None, None),
                     lambda thing: written(thing, None), lambda thing: taken(thing, None),
                     lambda thing: list(walk(thing, None))]:
            self.assert_no_program(call)

    def test_stands(self):
        program = Program.of(("tell", 0), marks=Marks((0,), (0, None)), begin=(None, None))
        for thing in NO_STANDS:
            for call in [lambda: true_after(program, thing, (1,)), lambda: plain_after(program, thing, (1,)),
                         lambda: written(program, thing), lambda: taken(program, thing)]:
                with self.assertRaises(BadStand, msg=repr(thing)):
                    call()

    def test_stands_before_rows(self):
        program = Program.of(("tell", 0))
        for call in [true_after, plain_after]:
            with self.assertRaises(BadStand):
                call(program, (3,), (3,))
            with self.assertRaises(BadRow):
                call(program, (2,), (3,))

    def test_rows(self):
        program = Program.of(("tell", 0))
        for thing in NO_ROWS:
            for call in [true_after, plain_after]:
                with self.assertRaises(BadRow, msg=repr(thing)):
                    call(program, (1,), thing)
        pairs = Program.of(("tell", 0), marks=Marks((0, 0), (0,)))
        for thing in [(1,), (1, 1, 1), (1, 3), (3, 1), (1, True), [1, 1], (1, None, None)]:
            for call in [true_after, plain_after]:
                with self.assertRaises(BadRow, msg=repr(thing)):
                    call(pairs, (1,), thing)

    def test_each_stand_and_row_up_to_the_top(self):
        for top, number in itertools.product([1, 2, 3, 4], range(10)):
            program = Program.of(("tell", 0), top=top)
            for call in [true_after, plain_after]:
                if number <= top:
                    self.assertEqual(call(program, (number,), (number,))[0], (number,))
                else:
                    with self.assertRaises(BadStand):
                        call(program, (number,), (0,))
                    with self.assertRaises(BadRow):
                        call(program, (0,), (number,))

    def test_integers_of_a_subclass(self):
        program = Program.of(("tell", 0))
        self.assertEqual(true_after(program, (Whole(1),), (Whole(2),)), ((1,), [2], []))


class TestWalk(TestCase):

    def test_row_by_row(self):
        for chance in oracle.chances(100):
            program = oracle.random_program(chance)
            rows = [chance.choice(oracle.all_rows(program)) for _ in range(chance.randint(0, 9))]
            data = Data(rows, width=len(program.marks.columns))
            contents, stand, due = first_contents(program), first_stand(program), []
            for row in rows:
                contents, told = oracle.plain_run(program, contents, row)
                stand, _, events = oracle.true_run(program, stand, row)
                due.append((contents, stand, told, events))
            self.assertEqual(list(walk(program, data)), due)
            self.assertEqual([told for _, _, told, _ in walk(program, data)], program(data))

    def test_without_rows(self):
        self.assertEqual(list(walk(Program.of(("tell", 0)), Data([]))), [])
        self.assertEqual(list(walk(Program.of(("tell", 0), marks=Marks((0, 0), (0,))), Data([], width=2))), [])

    def test_with_300_rows(self):
        found = list(walk(Program.of(("tell", 0)), Data([(1,)] * 300)))
        self.assertEqual(found, [((0,), (None,), [1], [])] * 300)

    def test_wrong_arguments(self):
        program = Program.of(("tell", 0))
        for thing in all_but() + [[(1,)], ((1,),), Data([], width=2), Data.of((1, 1)), Data.of((3,)),
                                  Data.of((1,), (9,))]:
            with self.assertRaises(BadData, msg=repr(thing)):
                next(walk(program, thing))
        for thing in NO_PROGRAMS:
            with self.assertRaises(BadProgram) as caught:
                next(walk(thing, None))
            self.assertIsNone(caught.exception.part)

    def test_wrong_arguments_without_rows(self):
        with self.assertRaises(BadData):
            list(walk(Program.of(("tell", 0)), Data([], width=2)))
        with self.assertRaises(BadProgram):
            list(walk(None, Data([])))

    def test_lists_are_new(self):
        program, data = Program.of(("plus", "a", 0), ("tell", "a")), Data.of((None,), (None,))
        due = [((0,), (None,), [None], [(0, "reckoned", "a"), (0, "reckoned", 0)])] * 2
        found = []
        for contents, stand, told, events in walk(program, data):
            found.append((contents, stand, list(told), list(events)))
            told.append(1)
            events.clear()
        self.assertEqual([found, list(walk(program, data))], [due, due])


class TestNothingChanges(TestCase):

    def test_lists_are_new(self):
        program = Program.of(("plus", "a", 0), ("tell", "a"))
        due = ((None,), [None], [(0, "reckoned", "a")])
        _, told, events = true_after(program, (None,), (1,))
        told.clear()
        events.append(None)
        self.assertEqual(true_after(program, (None,), (1,)), due)
        _, told = plain_after(program, (0,), (1,))
        told.append(None)
        self.assertEqual(plain_after(program, (0,), (1,)), ((1,), [1]))

    def test_programs_stay(self):
        program, twin = [Program.of(("plus", "a", 0), ("tell", "a"), begin=(1,)) for _ in range(2)]
        true_after(program, (2,), (1,)), plain_after(program, (2,), (1,)), list(walk(program, Data.of((2,))))
        self.assertEqual([program, first_stand(program), first_contents(program)], [twin, (1,), (1,)])


if __name__ == "__main__":
    unittest.main()
