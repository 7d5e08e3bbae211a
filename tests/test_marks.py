"""Tests of lackmark.marks."""

import itertools
import unittest

from lackmark.data import Data
from lackmark.errors import BadMarks, BadPlace
from lackmark.marks import Marks
from tests.things import Odd, Whole, all_but

PLACES = [0, 1, "a", "b", "c"]
NO_PLACES = [None, True, False, -1, 2, 3, 10 ** 40, -10 ** 40, 1.0, "", "d", "A", "ab", "aa", "abc", "0", "1", b"a",
             [], [0], ["a"], (), (0,), ("a",), {}, {0: 1}, set(), {"a"}, frozenset(), range(1), object(), Odd(), Odd,
             slice(0, 1), Marks((0,), (0,)), Data([])]
NO_MARKS = [True, False, -1, 10, 11, 10 ** 40, "", "1", "a", b"1", [], [1], (), (1,), {}, {0: 1}, set(), object(),
            Odd(), Odd, range(1), Data([])]


def shapes():
    """Return the numbers of columns and of registers that there can be."""
    return list(itertools.product([1, 2], [1, 2, 3]))


def places_of(columns, registers):
    """Return the places of marks for so many columns and registers, in order."""
    return PLACES[:columns] + PLACES[2:2 + registers]


def made(columns, registers):
    """Return marks for so many columns and registers: 1 and 2, and 3, None and 5."""
    return Marks((1, 2)[:columns], (3, None, 5)[:registers])


class TestExamples(unittest.TestCase):

    def test_document(self):
        marks = Marks((0, None), (9,))
        found = [marks[0], marks['a'], 'b' in marks, len(marks), marks.own(), marks ^ Marks((0,), (9, 1)),
                 (marks | {1: 3, 'a': None}) == Marks((0, 3), (None,)), ~marks == Marks((None, None), (None,))]
        due = [0, 9, False, 3, [1], [1, 'b'], True, True]
        self.assertEqual(found, due)
        self.assertEqual([kind for kind in map(type, found)], [kind for kind in map(type, due)])


class TestInterface(unittest.TestCase):

    def test_defined_here(self):
        self.assertEqual(Marks.__module__, "lackmark.marks")

    def test_defined_in_the_class_itself(self):
        for name in ["__init__", "columns", "registers", "__getitem__", "__contains__", "__or__", "__xor__",
                     "__invert__", "__len__", "own", "__eq__"]:
            self.assertIn(name, vars(Marks))

    def test_kinds_of_members(self):
        self.assertIsInstance(vars(Marks)["columns"], property)
        self.assertIsInstance(vars(Marks)["registers"], property)

    def test_names_of_parameters(self):
        self.assertEqual(Marks(columns=(1,), registers=(2,)), Marks((1,), (2,)))

    def test_not_iterated_over(self):
        with self.assertRaises(TypeError):
            list(Marks((0,), (0,)))


class TestMade(unittest.TestCase):

    def test_each_mark(self):
        for one, other in itertools.product([None] + list(range(10)), repeat=2):
            marks = Marks((one,), (other,))
            self.assertEqual([marks.columns, marks.registers], [(one,), (other,)])

    def test_each_number_of_places(self):
        for columns, registers in shapes():
            marks = made(columns, registers)
            self.assertEqual(marks.columns, (1, 2)[:columns])
            self.assertEqual(marks.registers, (3, None, 5)[:registers])
            self.assertIs(type(marks.columns), tuple)
            self.assertIs(type(marks.registers), tuple)

    def test_too_few_or_too_many(self):
        for columns, registers in itertools.product(range(5), range(6)):
            if (columns, registers) not in shapes():
                with self.assertRaises(BadMarks, msg=(columns, registers)):
                    Marks((1,) * columns, (1,) * registers)

    def test_not_tuples(self):
        for thing in all_but(tuple) + ["1", b"1", [1], {1: 1}, {1}, iter((1,)), 1, Data.of((1,)), Marks((1,), (1,))]:
            with self.assertRaises(BadMarks, msg=repr(thing)):
                Marks(thing, (1,))
            with self.assertRaises(BadMarks, msg=repr(thing)):
                Marks((1,), thing)

    def test_no_marks_in_them(self):
        for wrong in NO_MARKS:
            for marks in [(wrong,), (1, wrong), (wrong, None)]:
                with self.assertRaises(BadMarks, msg=repr(marks)):
                    Marks(marks, (1,))
                with self.assertRaises(BadMarks, msg=repr(marks)):
                    Marks((1,), marks)
            with self.assertRaises(BadMarks, msg=repr(wrong)):
                Marks((1,), (1, 1, wrong))

    def test_integers_of_a_subclass(self):
        self.assertEqual(Marks((Whole(3),), (Whole(4),)), Marks((3,), (4,)))

    def test_properties_cannot_be_assigned(self):
        marks = made(2, 3)
        with self.assertRaises(AttributeError):
            marks.columns = (1,)
        with self.assertRaises(AttributeError):
            marks.registers = (1,)


class TestPlaces(unittest.TestCase):

    def test_each_place(self):
        worth = {0: 1, 1: 2, "a": 3, "b": None, "c": 5}
        for columns, registers in shapes():
            marks = made(columns, registers)
            for place in PLACES:
                if place in places_of(columns, registers):
                    self.assertIs(place in marks, True)
                    self.assertEqual(marks[place], worth[place])
                else:
                    self.assertIs(place in marks, False)
                    with self.assertRaises(BadPlace):
                        marks[place]

    def test_no_place(self):
        for columns, registers in shapes():
            marks = made(columns, registers)
            for thing in NO_PLACES + all_but(int, str):
                self.assertIs(thing in marks, False, repr(thing))
                with self.assertRaises(BadPlace, msg=repr(thing)):
                    marks[thing]

    def test_length(self):
        for columns, registers in shapes():
            self.assertEqual(len(made(columns, registers)), columns + registers)


class TestChanges(unittest.TestCase):

    def test_each_place(self):
        for columns, registers in shapes():
            marks = made(columns, registers)
            for place, mark in itertools.product(places_of(columns, registers), [None] + list(range(10))):
                changed = marks | {place: mark}
                self.assertIs(type(changed), Marks)
                for other in places_of(columns, registers):
                    self.assertEqual(changed[other], mark if other == place else marks[other])
                self.assertEqual([len(changed.columns), len(changed.registers)], [columns, registers])

    def test_all_places_in_any_order(self):
        marks, due = made(2, 3), Marks((9, None), (None, 8, 0))
        changes = [(0, 9), (1, None), ("a", None), ("b", 8), ("c", 0)]
        for order in itertools.permutations(changes):
            self.assertEqual(marks | dict(order), due)

    def test_that_change_nothing(self):
        for columns, registers in shapes():
            marks = made(columns, registers)
            self.assertEqual(marks | {}, marks)
            self.assertEqual(marks | {place: marks[place] for place in places_of(columns, registers)}, marks)

    def test_places_without_marks(self):
        for columns, registers in shapes():
            for place in PLACES:
                if place not in places_of(columns, registers):
                    with self.assertRaises(BadMarks):
                        made(columns, registers) | {place: 1}
                    with self.assertRaises(BadMarks):
                        made(columns, registers) | {0: 1, place: None}

    def test_keys_that_are_no_places(self):
        for key in [None, True, False, -1, 2, 3, 10 ** 40, "", "d", "A", "ab", "0", b"a", (), (0,), ("a",),
                    frozenset(), Odd(), Odd]:
            for changes in [{key: 1}, {key: None}, {"a": 1, key: 1}, {key: 1, "a": 1}]:
                with self.assertRaises(BadMarks, msg=repr(changes)):
                    made(2, 3) | changes

    def test_values_that_are_no_marks(self):
        for wrong in NO_MARKS:
            for place in PLACES:
                with self.assertRaises(BadMarks, msg=repr(wrong)):
                    made(2, 3) | {place: wrong}
                with self.assertRaises(BadMarks, msg=repr(wrong)):
                    made(2, 3) | {0: 1, place: wrong, "c": wrong}

    def test_not_a_dict(self):
        for thing in all_but(dict) + [[(0, 1)], ((0, 1),), {(0, 1)}, Marks((0,), (0,)), 1, "a"]:
            with self.assertRaises(BadMarks, msg=repr(thing)):
                made(2, 3) | thing

    def test_argument_is_not_modified_or_kept(self):
        marks, changes = made(2, 3), {"c": 9, 0: None}
        changed = marks | changes
        self.assertEqual(list(changes.items()), [("c", 9), (0, None)])
        changes["c"], changes["a"] = 1, 1
        self.assertEqual(changed, Marks((None, 2), (3, None, 9)))
        self.assertEqual(marks, made(2, 3))


class TestUnlikePlaces(unittest.TestCase):

    def test_same_marks(self):
        for columns, registers in shapes():
            self.assertEqual(made(columns, registers) ^ made(columns, registers), [])

    def test_places_that_only_one_has(self):
        for one, other in itertools.product(shapes(), repeat=2):
            mine, theirs = places_of(*one), places_of(*other)
            due = [place for place in PLACES if (place in mine) != (place in theirs)]
            self.assertEqual(made(*one) ^ made(*other), due)

    def test_other_marks(self):
        for places in [list(some) for many in range(6) for some in itertools.combinations(PLACES, many)]:
            other = made(2, 3) | {place: 9 for place in reversed(places)}
            self.assertEqual(made(2, 3) ^ other, places)
            self.assertEqual(other ^ made(2, 3), places)

    def test_own_object_and_number(self):
        self.assertEqual(Marks((None,), (0,)) ^ Marks((0,), (None,)), [0, "a"])
        self.assertEqual(Marks((None,), (None,)) ^ Marks((None, None), (None,)), [1])
        self.assertEqual(Marks((0,), (0,)) ^ Marks((0, 0), (0, None)), [1, "b"])

    def test_list_is_new(self):
        one, other = Marks((0,), (0,)), Marks((0,), (1,))
        found = one ^ other
        found.append("b")
        self.assertEqual(one ^ other, ["a"])
        self.assertIs(type(one ^ other), list)

    def test_not_marks(self):
        for thing in all_but() + [((1, 2), (3,)), Data([]), {0: 1}]:
            with self.assertRaises(BadMarks, msg=repr(thing)):
                made(2, 3) ^ thing


class TestOwnObjects(unittest.TestCase):

    def test_own_objects_for_all(self):
        for columns, registers in shapes():
            due = Marks((None,) * columns, (None,) * registers)
            self.assertEqual(~made(columns, registers), due)
            self.assertEqual(~~made(columns, registers), due)
            self.assertIs(type(~due), Marks)

    def test_own(self):
        for columns, registers in shapes():
            marks = Marks((0,) * columns, (0,) * registers)
            places = places_of(columns, registers)
            for some in [list(some) for many in range(6) for some in itertools.combinations(places, many)]:
                self.assertEqual((marks | {place: None for place in reversed(some)}).own(), some)
            self.assertEqual((~marks).own(), places)

    def test_zero_is_no_own_object(self):
        self.assertEqual(Marks((0, 0), (0, 0, 0)).own(), [])

    def test_list_is_new(self):
        marks = Marks((None,), (None,))
        marks.own().clear()
        self.assertEqual(marks.own(), [0, "a"])
        self.assertIs(type(marks.own()), list)


class TestEqual(unittest.TestCase):

    def test_equal(self):
        for columns, registers in shapes():
            self.assertIs(made(columns, registers) == made(columns, registers), True)
            self.assertIs(made(columns, registers) != made(columns, registers), False)

    def test_other_places(self):
        for one, other in itertools.product(shapes(), repeat=2):
            self.assertEqual(made(*one) == made(*other), one == other)
            self.assertEqual(made(*one) != made(*other), one != other)

    def test_other_marks(self):
        for columns, registers in shapes():
            marks = made(columns, registers)
            for place in places_of(columns, registers):
                self.assertIs(marks == marks | {place: 9}, False)
                self.assertIs(marks != marks | {place: 9}, True)

    def test_columns_are_no_registers(self):
        self.assertNotEqual(Marks((1,), (2,)), Marks((2,), (1,)))
        self.assertNotEqual(Marks((1, 2), (3,)), Marks((1,), (2, 3)))

    def test_other_things(self):
        for thing in all_but() + [Data([]), Data.of((1,)), ((1,), (3,)), {0: 1, "a": 3}]:
            self.assertIs(made(1, 1) == thing, False)
            self.assertIs(made(1, 1) != thing, True)


class TestNothingChanges(unittest.TestCase):

    def test_operands_stay(self):
        one, other = made(2, 3), Marks((1,), (9, 8))
        one | {0: 9}, one ^ other, ~one, len(one), one.own(), one[0], "a" in one, one == other
        self.assertEqual([one.columns, one.registers, one["a"]], [(1, 2), (3, None, 5), 3])
        self.assertEqual([other.columns, other.registers, other["b"]], [(1,), (9, 8), 8])

    def test_operands_stay_where_refused(self):
        marks = made(2, 3)
        for call in [lambda: marks | {0: 9, 2: 1}, lambda: marks | {"a": 9, "b": 10}, lambda: marks ^ None,
                     lambda: marks[2]]:
            with self.assertRaises((BadMarks, BadPlace)):
                call()
        self.assertEqual([marks.columns, marks.registers, marks[0], marks["a"]], [(1, 2), (3, None, 5), 1, 3])

    def test_in_place_sign_makes_other_marks(self):
        marks = same = made(1, 1)
        marks |= {0: 9}
        self.assertEqual([marks, same], [Marks((9,), (3,)), made(1, 1)])


if __name__ == "__main__":
    unittest.main()
