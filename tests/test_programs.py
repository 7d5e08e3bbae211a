"""Tests of lackmark.programs."""

import itertools
import unittest

from lackmark.data import Data
from lackmark.errors import BadData, BadNumber, BadProgram
from lackmark.marks import Marks
from lackmark.programs import Program
from tests import oracle
from tests.things import Odd, Whole, all_but

PARTS = ["TOP", "MARKS", "BEGIN", "STEPS"]

# One of each kind of step, for two columns, three registers and the top 2, in front of one more step.
STEPS = [("copy", "a", 0), ("turn", "b", "c"), ("plus", "c", 1), ("less", "a", "a"), ("most", "b", 1),
         ("least", "c", "a"), ("sort", "a", "c"), ("find", "b", 0, (2, None, 0)), ("set", "c", None), ("set", "a", 2),
         ("else", "b", 1), ("lack", 0, 1), ("lack", "c", 0), ("same", 0, 1, 1), ("same", "a", 0, 0),
         ("over", "a", "b", 1), ("over", 1, "c", 0), ("tell", 1), ("tell", "b")]
TELL = ("tell", 0)


def made(*, top=2, marks=Marks((0, 0), (0, 0, 0)), begin=(None, None, None), steps=(TELL,)):
    return Program(top, marks, begin, steps)


class TestCase(unittest.TestCase):

    def assert_part(self, part, call, about=None):
        with self.assertRaises(BadProgram, msg=repr(about)) as caught:
            call()
        self.assertEqual(caught.exception.part, part, repr(about))

    def assert_steps_wrong(self, *steps, **others):
        self.assert_part("STEPS", lambda: made(steps=steps, **others), steps)


class TestExamples(TestCase):

    def test_document(self):
        total = Program.of(('lack', 0, 1), ('plus', 'a', 0), ('tell', 'a'), begin=(1,))
        wrong = Program.of(('plus', 'a', 0), ('tell', 'a'), begin=(1,))
        found = [total(Data.of((1,), (None,), (2,))), (~wrong)(Data.of((None,), (2,))), total ^ wrong, wrong[0],
                 len(total), (total % Marks((2,), (None,))).marks[0],
                 total == Program(2, Marks((0,), (0,)), (1,), total.steps)]
        due = [[[2], [2], [2]], [[None], [None]], ['STEPS'], ('plus', 'a', 0), 3, 2, True]
        self.assertEqual(found, due)
        self.assertEqual([kind for kind in map(type, found)], [kind for kind in map(type, due)])


class TestInterface(TestCase):

    def test_defined_here(self):
        self.assertEqual(Program.__module__, "lackmark.programs")

    def test_defined_in_the_class_itself(self):
        for name in ["__init__", "top", "marks", "begin", "steps", "of", "__len__", "__getitem__", "__mod__",
                     "__invert__", "__call__", "__xor__", "__eq__"]:
            self.assertIn(name, vars(Program))

    def test_kinds_of_members(self):
        for name in ["top", "marks", "begin", "steps"]:
            self.assertIsInstance(vars(Program)[name], property)
        self.assertIsInstance(vars(Program)["of"], classmethod)

    def test_names_of_parameters(self):
        program = Program(top=1, marks=Marks((0,), (None,)), begin=(1,), steps=(TELL,))
        self.assertEqual(program, Program.of(TELL, top=1, marks=Marks((0,), (None,)), begin=(1,)))
        self.assertEqual(program(data=Data([])), [])

    def test_parameters_of_of_are_keyword_only(self):
        self.assert_part("STEPS", lambda: Program.of(TELL, 2))

    def test_not_iterated_over(self):
        with self.assertRaises(TypeError):
            list(Program.of(TELL))

    def test_properties_cannot_be_assigned(self):
        program = Program.of(TELL)
        for name in ["top", "marks", "begin", "steps"]:
            with self.assertRaises(AttributeError):
                setattr(program, name, getattr(program, name))


class TestMade(TestCase):

    def test_properties(self):
        marks, steps = Marks((None, 3), (1, None)), (("set", "b", 3), ("tell", 1))
        program = Program(3, marks, (None, 2), steps)
        self.assertEqual([program.top, program.marks, program.begin, program.steps], [3, marks, (None, 2), steps])
        self.assertEqual([type(program.top), type(program.marks), type(program.begin), type(program.steps)],
                         [int, Marks, tuple, tuple])

    def test_of(self):
        self.assertEqual(Program.of(TELL), Program(2, Marks((0,), (0,)), (None,), (TELL,)))
        self.assertEqual(Program.of(TELL, marks=None), Program.of(TELL))
        steps, marks = (("copy", "b", 1), ("tell", "b"), TELL), Marks((1, 2), (3, None))
        self.assertEqual(Program.of(*steps, top=4, marks=marks, begin=(4, None)),
                         Program(4, marks, (4, None), steps))
        self.assertIs(type(Program.of(TELL)), Program)

    def test_of_is_wrong(self):
        self.assert_part("STEPS", lambda: Program.of())
        self.assert_part("TOP", lambda: Program.of(TELL, top=5))
        self.assert_part("MARKS", lambda: Program.of(TELL, marks=0))
        self.assert_part("MARKS", lambda: Program.of(TELL, top=1, marks=Marks((2,), (0,))))
        self.assert_part("BEGIN", lambda: Program.of(TELL, begin=(0,)))
        self.assert_part("BEGIN", lambda: Program.of(TELL, begin=None))
        self.assert_part("STEPS", lambda: Program.of([TELL]))
        self.assert_part("STEPS", lambda: Program.of((TELL, TELL)))

    def test_each_top(self):
        for top in [1, 2, 3, 4]:
            marks = Marks((top,), (top, 0))
            program = Program(top, marks, (None, top), (("set", "a", top),))
            self.assertEqual([program.top, program.marks, program.begin], [top, marks, (None, top)])

    def test_wrong_top(self):
        for thing in all_but(int) + [0, -1, 5, 6, 9, 10, 10 ** 40, -10 ** 40, "2", [2], (2,)]:
            self.assert_part("TOP", lambda: made(top=thing), thing)

    def test_each_mark(self):
        for top, one, other in itertools.product([1, 2, 3, 4], [None] + list(range(10)), [None] + list(range(10))):
            marks = Marks((one,), (other,))
            if (one or 0) <= top and (other or 0) <= top:
                self.assertEqual(Program(top, marks, (None,), (TELL,)).marks, marks)
            else:
                self.assert_part("MARKS", lambda: Program(top, marks, (None,), (TELL,)), (top, one, other))

    def test_each_number_of_places(self):
        for columns, registers in itertools.product([1, 2], [1, 2, 3]):
            marks = Marks((1,) * columns, (0,) * registers)
            program = made(marks=marks, begin=(1,) * registers)
            self.assertEqual([program.marks, program.begin], [marks, (1,) * registers])
            for place in [0, 1, "a", "b", "c"]:
                if place in oracle.places_of(program):
                    self.assertEqual(made(marks=marks, begin=program.begin, steps=(("tell", place),))[0][1], place)
                else:
                    self.assert_steps_wrong(("tell", place), marks=marks, begin=program.begin)

    def test_a_mark_that_is_too_great_at_each_place(self):
        for place in [0, 1, "a", "b", "c"]:
            self.assert_part("MARKS", lambda: made(marks=Marks((0, 0), (0, 0, 0)) | {place: 3}), place)
            self.assertEqual(made(marks=Marks((0, 0), (0, 0, 0)) | {place: 2}).marks[place], 2)

    def test_not_marks(self):
        for thing in all_but() + [((0, 0), (0, 0, 0)), {0: 0, "a": 0}, Data([]), Program.of(TELL), Marks]:
            self.assert_part("MARKS", lambda: made(marks=thing), thing)


class TestBegin(TestCase):

    def test_each_begin(self):
        for top, mark, begin in itertools.product([1, 2, 3, 4], [None, 0, 1], [None] + list(range(-1, 11))):
            marks = Marks((0,), (mark,))
            if begin is None or (0 <= begin <= top and begin != mark):
                self.assertEqual(Program(top, marks, (begin,), (TELL,)).begin, (begin,))
            else:
                self.assert_part("BEGIN", lambda: Program(top, marks, (begin,), (TELL,)), (top, mark, begin))

    def test_the_mark_at_each_register(self):
        marks = Marks((1, 1), (0, 2, 1))
        self.assertEqual(made(marks=marks, begin=(2, 1, 0)).begin, (2, 1, 0))
        for begin in [(0, None, None), (None, 2, None), (None, None, 1), (2, 1, 1), (0, 2, 1)]:
            self.assert_part("BEGIN", lambda: made(marks=marks, begin=begin), begin)

    def test_the_mark_of_a_column_is_no_mark_of_a_register(self):
        self.assertEqual(made(marks=Marks((1, 2), (0, 0, 0)), begin=(1, 2, 1)).begin, (1, 2, 1))

    def test_too_few_or_too_many(self):
        for many, registers in itertools.product(range(6), [1, 2, 3]):
            if many != registers:
                marks = Marks((0, 0), (0,) * registers)
                self.assert_part("BEGIN", lambda: made(marks=marks, begin=(None,) * many), (many, registers))

    def test_wrong_things(self):
        for thing in all_but() + [[None, None, None], "abc", {0: None, 1: None, 2: None}, Data([])]:
            self.assert_part("BEGIN", lambda: made(begin=thing), thing)
        for thing in all_but(None) + [-1, 3, "1"]:
            for begin in [(thing, None, None), (None, thing, 1), (1, 1, thing)]:
                self.assert_part("BEGIN", lambda: made(begin=begin), begin)


class TestSteps(TestCase):

    def test_one_to_eight(self):
        for many in range(1, 9):
            self.assertEqual(made(steps=(TELL,) * many).steps, (TELL,) * many)

    def test_none_or_too_many(self):
        for many in [0, 9, 10, 300]:
            self.assert_steps_wrong(*(TELL,) * many)

    def test_not_a_tuple(self):
        for thing in all_but() + [[TELL], {TELL: 1}, {TELL}, "tell", (("tell",),), Data([]), Program.of(TELL)]:
            self.assert_part("STEPS", lambda: made(steps=thing), thing)

    def test_each_kind(self):
        for step in STEPS:
            self.assertEqual(made(steps=(step, TELL)).steps, (step, TELL))

    def test_not_a_step(self):
        for thing in all_but() + ["tell", ["tell", 0], ("tell",), ("tell", 0, 0), (TELL,), {"tell": 0}, ("tella", 0),
                                  ("Tell", 0), ("", 0), (None, 0), (0, 0), (("tell",), 0), ([], 0), ({}, "a", 0)]:
            self.assert_steps_wrong(thing)
            self.assert_steps_wrong(TELL, thing, TELL)

    def test_other_words(self):
        words = [step[0] for step in STEPS]
        for step, word in itertools.product(STEPS, all_but() + ["met", "min", "PLUS", "plus ", b"plus", "t", "el"]):
            self.assertNotIn(word if isinstance(word, str) else None, words)
            self.assert_steps_wrong((word,) + step[1:], TELL)

    def test_too_few_and_too_many_parts(self):
        for step in STEPS:
            for at in range(len(step)):
                self.assert_steps_wrong(step[:at], TELL)
            for more in [0, None, "a", 1]:
                self.assert_steps_wrong(step + (more,), TELL)

    def test_each_part_wrong(self):
        wrong = all_but(None) + [-1, 3, 4, 10 ** 40, "d", "ab", "A", "", (0, 0), (0, 0, 0, 0), [0, 0, 0],
                                 (0, 0, 3), (0, 0, -1), (0, 0, True), (0, False, 0), (0, 0, "a"), (0, 0, (0,))]
        for step in STEPS:
            kinds = oracle.FORMS[step[0]]
            for at, thing in itertools.product(range(len(kinds)), wrong):
                if not fits(thing, kinds[at], 2, [0, 1, "a", "b", "c"], 1):
                    self.assert_steps_wrong(step[:at + 1] + (thing,) + step[at + 2:], TELL)

    def test_every_step_of_some_parts(self):
        pool = [None, True, False, 0, 1, 2, 3, "a", "b", "c", "", (), (0, None, 2), (0, 0), (0, 3, 0), (0, True, 0)]
        for marks, behind in [(Marks((0,), (0, 0)), 1), (Marks((0, 0), (0,)), 0)]:
            begin, places = (None,) * len(marks.registers), oracle.COLUMNS[:len(marks.columns)]
            places = places + oracle.REGISTERS[:len(marks.registers)]
            for word, many in itertools.product(oracle.FORMS, range(4)):
                for parts in itertools.product(pool, repeat=many):
                    step = (word,) + parts
                    try:
                        Program(2, marks, begin, (step,) + (TELL,) * behind)
                        found = None
                    except BadProgram as error:
                        found = error.part
                    self.assertEqual(found, None if is_step(step, 2, places, behind) else "STEPS", step)

    def test_integers_of_a_subclass(self):
        self.assertEqual(made(steps=(("set", "a", Whole(2)),)), made(steps=(("set", "a", 2),)))

    def test_one_place_with_itself(self):
        for word in ["same", "over"]:
            for place in [0, 1, "a", "b", "c"]:
                self.assert_steps_wrong((word, place, place, 0))
        for register in ["a", "b", "c"]:
            self.assert_steps_wrong(("sort", register, register))
            for word in ["copy", "turn", "plus", "less", "most", "least", "else"]:
                self.assertEqual(made(steps=((word, register, register),))[0], (word, register, register))
            self.assertEqual(made(steps=(("find", register, register, (0, 1, 2)),))[0][2], register)

    def test_columns_are_no_registers(self):
        for step in STEPS:
            for at, kind in enumerate(oracle.FORMS[step[0]]):
                for column in [0, 1]:
                    if kind == oracle.REG:
                        self.assert_steps_wrong(step[:at + 1] + (column,) + step[at + 2:], TELL)

    def test_numbers_up_to_the_top(self):
        for top in [1, 2, 3, 4]:
            for number in range(10):
                steps = [("set", "a", number), ("find", "a", 0, (number,) + (0,) * top),
                         ("find", "a", 0, (None,) * top + (number,))]
                for step in steps:
                    if number <= top:
                        self.assertEqual(Program.of(step, top=top)[0], step)
                    else:
                        self.assert_part("STEPS", lambda: Program.of(step, top=top), (top, step))

    def test_length_of_tables(self):
        for top, many in itertools.product([1, 2, 3, 4], range(8)):
            step = ("find", "a", 0, (0,) * many)
            if many == top + 1:
                self.assertEqual(Program.of(step, top=top)[0], step)
            else:
                self.assert_part("STEPS", lambda: Program.of(step, top=top), (top, step))

    def test_skips(self):
        for many, at in [(many, at) for many in range(1, 9) for at in range(many)]:
            for skip in range(-1, 10):
                for step in [("lack", 0, skip), ("same", 0, "a", skip), ("over", "a", 1, skip)]:
                    steps = (TELL,) * at + (step,) + (TELL,) * (many - 1 - at)
                    if 0 <= skip <= many - 1 - at:
                        self.assertEqual(made(steps=steps)[at], step)
                    else:
                        self.assert_steps_wrong(*steps)

    def test_a_wrong_step_at_each_index(self):
        for many, at in [(many, at) for many in range(1, 9) for at in range(many)]:
            self.assert_steps_wrong(*(TELL,) * at, ("tell", 2), *(TELL,) * (many - 1 - at))


class TestFirstWrongPart(TestCase):

    def test_each_choice_of_wrong_parts(self):
        right = {"top": 2, "marks": Marks((0, 0), (0, 0, 0)), "begin": (None, 1, None), "steps": (TELL,)}
        wrong = {"top": 5, "marks": None, "begin": (0,), "steps": ()}
        for picks in itertools.product([False, True], repeat=4):
            parts = {name: (wrong if pick else right)[name] for name, pick in zip(right, picks)}
            if any(picks):
                self.assert_part(PARTS[picks.index(True)], lambda: Program(**parts), parts)

    def test_marks_above_a_top_that_is_right(self):
        self.assert_part("MARKS", lambda: Program(1, Marks((2,), (0,)), (0,), ()))
        self.assert_part("TOP", lambda: Program(0, Marks((2,), (0,)), (0,), ()))
        self.assert_part("BEGIN", lambda: Program(2, Marks((2,), (0,)), (0,), ()))
        self.assert_part("STEPS", lambda: Program(2, Marks((2,), (0,)), (1,), ()))


class TestLengthAndItems(TestCase):

    def test_each_step(self):
        for many in range(1, 9):
            steps = tuple(("set", "a", index % 3) for index in range(many))
            program = Program.of(*steps)
            self.assertEqual(len(program), many)
            self.assertEqual([program[index] for index in range(many)], list(steps))

    def test_no_such_step(self):
        for many in [1, 2, 8]:
            program = Program.of(*(TELL,) * many)
            for index in all_but(int) + [-1, -2, many, many + 1, 10 ** 40, -10 ** 40, slice(0, 1)]:
                with self.assertRaises(BadNumber, msg=repr(index)):
                    program[index]


class TestOtherMarks(TestCase):

    def test_other_marks(self):
        program = Program.of(("plus", "a", 0), TELL, top=3, begin=(1,))
        for marks in [Marks((2,), (None,)), Marks((None,), (3,)), Marks((0,), (0,)), Marks((1, 2), (0,))]:
            other = program % marks
            self.assertEqual(other, Program(3, marks, (1,), program.steps))
            self.assertIs(type(other), Program)
        self.assertEqual(program.marks, Marks((0,), (0,)))

    def test_fewer_places(self):
        program = made(steps=(("tell", "a"),))
        self.assertEqual((program % Marks((1,), (1, 1, 1))).marks, Marks((1,), (1, 1, 1)))
        self.assert_part("BEGIN", lambda: program % Marks((1, 1), (1, 1)))
        self.assert_part("STEPS", lambda: made(steps=(("tell", 1),)) % Marks((1,), (1, 1, 1)))

    def test_more_places(self):
        program = Program.of(TELL)
        self.assertEqual((program % Marks((1, 2), (0,))).marks, Marks((1, 2), (0,)))
        self.assert_part("BEGIN", lambda: program % Marks((1,), (0, 0)))

    def test_wrong_parts(self):
        program = Program.of(TELL, begin=(1,))
        self.assert_part("MARKS", lambda: program % Marks((3,), (0,)))
        self.assert_part("MARKS", lambda: program % Marks((0,), (9,)))
        self.assert_part("BEGIN", lambda: program % Marks((0,), (1,)))
        self.assert_part("MARKS", lambda: program % Marks((3,), (1,)))
        self.assert_part("BEGIN", lambda: Program.of(("tell", 1), marks=Marks((0, 0), (0,)), begin=(1,))
                         % Marks((0,), (1,)))

    def test_not_marks(self):
        for thing in all_but() + [((0,), (0,)), {0: 0}, Data([]), Program.of(TELL)]:
            self.assert_part("MARKS", lambda: Program.of(TELL) % thing, thing)

    def test_own_objects(self):
        for chance in oracle.chances(50):
            program = oracle.random_program(chance)
            self.assertEqual(~program, Program(program.top, ~program.marks, program.begin, program.steps))
            self.assertEqual(~~program, ~program)
        self.assertEqual((~Program.of(TELL)).marks, Marks((None,), (None,)))


class TestCalled(TestCase):

    def test_told_plainly(self):
        program = Program.of(("tell", 0), ("plus", "a", 0), ("tell", "a"), ("tell", "b"), ("set", "b", 1),
                             marks=Marks((1,), (0, None)), begin=(1, None))
        self.assertEqual(program(Data.of((0,), (None,), (1,), (2,))), [[0, 1, None], [None, 2, 1], [None, 2, 1],
                                                                       [2, 2, 1]])

    def test_as_the_document_says(self):
        for chance in oracle.chances(150):
            program = oracle.random_program(chance)
            rows = [chance.choice(oracle.all_rows(program)) for _ in range(chance.randint(0, 12))]
            data = Data(rows, width=len(program.marks.columns))
            contents = tuple(mark if number is None else number
                             for number, mark in zip(program.begin, program.marks.registers))
            due = []
            for row in rows:
                contents, told = oracle.plain_run(program, contents, row)
                due.append(told)
            self.assertEqual(program(data), due)

    def test_without_rows_and_with_300(self):
        program = Program.of(TELL)
        self.assertEqual(program(Data([])), [])
        self.assertEqual(program(Data([(2,)] * 300)), [[2]] * 300)

    def test_nothing_told(self):
        self.assertEqual(Program.of(("set", "a", 1))(Data.of((0,), (1,))), [[], []])

    def test_not_such_data(self):
        for thing in all_but() + [[(1,)], ((1,),), Marks((0,), (0,)), Program.of(TELL)]:
            with self.assertRaises(BadData, msg=repr(thing)):
                Program.of(TELL)(thing)

    def test_other_width(self):
        one, two = Program.of(TELL), Program.of(TELL, marks=Marks((0, 0), (0,)))
        for data in [Data([], width=2), Data.of((1, 1)), Data.of((None, None))]:
            self.assertEqual(len(two(data)), len(data.rows))
            with self.assertRaises(BadData):
                one(data)
        for data in [Data([]), Data.of((1,))]:
            self.assertEqual(len(one(data)), len(data.rows))
            with self.assertRaises(BadData):
                two(data)

    def test_numbers_above_the_top(self):
        for top in [1, 2, 3, 4]:
            one = Program.of(TELL, top=top)
            two = Program.of(TELL, top=top, marks=Marks((0, 0), (0,)))
            for number in range(10):
                data, pairs = Data.of((0,), (None,), (number,)), Data.of((0, 0), (None, number))
                if number <= top:
                    self.assertEqual([one(data)[2], two(pairs)[1]], [[number or None], [None]])
                else:
                    for program, wrong in [(one, data), (two, pairs), (two, Data.of((number, 1), (1, 1)))]:
                        with self.assertRaises(BadData):
                            program(wrong)

    def test_lists_are_new(self):
        program, data = Program.of(TELL), Data.of((1,), (2,))
        first = program(data)
        first[0].append(9)
        first.append([])
        self.assertEqual(program(data), [[1], [2]])
        self.assertEqual(data, Data.of((1,), (2,)))


class TestUnlikeParts(TestCase):

    def test_each_choice_of_unlike_parts(self):
        one = {"top": 2, "marks": Marks((0,), (0,)), "begin": (1,), "steps": (TELL,)}
        other = {"top": 3, "marks": Marks((0, 0), (None,)), "begin": (None,), "steps": (TELL, TELL)}
        for picks in itertools.product([False, True], repeat=4):
            twin = Program(**{name: (other if pick else one)[name] for name, pick in zip(one, picks)})
            due = [part for part, pick in zip(PARTS, picks) if pick]
            for found in [Program(**one) ^ twin, twin ^ Program(**one)]:
                self.assertEqual(found, due)
                self.assertIs(type(found), list)
            self.assertIs(Program(**one) == twin, due == [])
            self.assertIs(Program(**one) != twin, due != [])

    def test_list_is_new(self):
        one, other = Program.of(TELL), Program.of(TELL, top=3)
        found = one ^ other
        found.append("STEPS")
        self.assertEqual(one ^ other, ["TOP"])

    def test_not_a_program(self):
        for thing in all_but() + [Marks((0,), (0,)), Data([]), (TELL,), Program]:
            self.assert_part(None, lambda: Program.of(TELL) ^ thing, thing)

    def test_equal_to_no_other_things(self):
        for thing in all_but() + [Marks((0,), (0,)), Data([]), (TELL,), (2, Marks((0,), (0,)), (None,), (TELL,))]:
            self.assertIs(Program.of(TELL) == thing, False)
            self.assertIs(Program.of(TELL) != thing, True)

    def test_order_of_steps(self):
        self.assertNotEqual(Program.of(TELL, ("tell", "a")), Program.of(("tell", "a"), TELL))


class TestNothingChanges(TestCase):

    def test_operands_stay(self):
        marks = Marks((0,), (0,))
        program = Program.of(("plus", "a", 0), TELL, marks=marks, begin=(1,))
        other = Program.of(TELL)
        program % Marks((1,), (None,)), ~program, program ^ other, len(program), program[0], program == other
        program(Data.of((None,), (2,)))
        self.assertEqual([program.top, program.marks, program.begin, program.steps],
                         [2, Marks((0,), (0,)), (1,), (("plus", "a", 0), TELL)])
        self.assertEqual([marks, other], [Marks((0,), (0,)), Program.of(TELL)])

    def test_operands_stay_where_refused(self):
        program = Program.of(TELL, begin=(1,))
        for call in [lambda: program % Marks((9,), (0,)), lambda: program ^ None, lambda: program(None),
                     lambda: program[1]]:
            with self.assertRaises((BadProgram, BadData, BadNumber)):
                call()
        self.assertEqual(program, Program(2, Marks((0,), (0,)), (1,), (TELL,)))

    def test_each_call_begins_anew(self):
        program = Program.of(("plus", "a", 0), ("tell", "a"), begin=(1,))
        self.assertEqual([program(Data.of((1,))), program(Data.of((1,)))], [[[2]], [[2]]])


def fits(thing, kind, top, places, behind):
    """Say whether a thing can be a part of this kind, as [4] says."""
    if kind == oracle.REG:
        return type(thing) is str and thing in places
    if kind == oracle.PLACE:
        return type(thing) in (int, str) and thing in places
    if kind == oracle.VALUE:
        return thing is None or (type(thing) is int and 0 <= thing <= top)
    if kind == oracle.TABLE:
        return (type(thing) is tuple and len(thing) == top + 1
                and all(fits(worth, oracle.VALUE, top, places, behind) for worth in thing))
    return type(thing) is int and 0 <= thing <= behind


def is_step(step, top, places, behind):
    """Say whether a word that there is and some parts are a step, as [4] says."""
    word, parts = step[0], step[1:]
    if len(parts) != len(oracle.FORMS[word]) or (word in ("sort", "same", "over") and parts[0] == parts[1]):
        return False
    return all(fits(part, kind, top, places, behind) for part, kind in zip(parts, oracle.FORMS[word]))


if __name__ == "__main__":
    unittest.main()
