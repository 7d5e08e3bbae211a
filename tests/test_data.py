"""Tests of lackmark.data."""

import collections
import itertools
import unittest

from lackmark.data import Data, rows_for
from lackmark.errors import BadData, BadNumber, BadRow
from lackmark.marks import Marks
from tests.things import Odd, Whole, all_but

NUMBERS = [None, 0, 1, 2, 3, 4, 5, 6, 7, 8, 9]
NO_ROWS = [None, True, False, 1, "1", "ab", b"1", [], [1], [None], [1, 2], {1: 2}, {1}, (), (1, 2, 3), (None,) * 3,
           (True,), (False,), (-1,), (10,), ("1",), ("",), ([1],), ((1,),), ({},), (set(),), (object(),), (b"1",),
           (10 ** 40,), (-10 ** 40,), (1, True), (False, 1), (1, -1), (1, 10), (10, 1), ("a", 1), (1, "a"),
           ([], []), (1, None, True), Odd(), Odd, range(1), frozenset([1]), iter([1]), Data.of((1,)), Data([])]


def ordinary():
    """Return some data of each width, new at each call."""
    return [Data([]), Data([], width=2), Data.of((1,)), Data.of((None,), (0,), (1,)), Data.of((1,), (1,), (9,)),
            Data.of((1, None)), Data.of((None, None), (0, 9)), Data([(None,)] * 300), Data([(0, None)] * 300)]


class TestExamples(unittest.TestCase):

    def test_document(self):
        one, other = Data([(1,), (None,), (2,)]), Data.of((1,), (None,))
        found = [len(one - other), other <= one, other < other, abs(one * 2), one[2], (None,) in other,
                 (one >> 2).rows, (other << (7,)).rows, (one & Data.of((1,), (3,))).rows, rows_for(1, 1)]
        due = [1, True, False, 2, (2,), True, ((2,),), ((1,), (None,), (7,)), ((1,),), [(None,), (0,), (1,)]]
        self.assertEqual(found, due)
        self.assertEqual([kind for kind in map(type, found)], [kind for kind in map(type, due)])


class TestInterface(unittest.TestCase):

    def test_defined_here(self):
        self.assertEqual([Data.__module__, rows_for.__module__], ["lackmark.data", "lackmark.data"])

    def test_defined_in_the_class_itself(self):
        for name in ["__init__", "rows", "width", "of", "__add__", "__lshift__", "__mul__", "__rmul__", "__rshift__",
                     "__and__", "__le__", "__lt__", "__sub__", "__len__", "__abs__", "__getitem__", "__contains__",
                     "__eq__"]:
            self.assertIn(name, vars(Data))

    def test_kinds_of_members(self):
        self.assertIsInstance(vars(Data)["rows"], property)
        self.assertIsInstance(vars(Data)["width"], property)
        self.assertIsInstance(vars(Data)["of"], classmethod)

    def test_names_of_parameters(self):
        self.assertEqual(Data(rows=[(1,)], width=1), Data.of((1,)))
        self.assertEqual(rows_for(width=1, top=1), rows_for(1, 1))

    def test_width_is_keyword_only(self):
        with self.assertRaises(TypeError):
            Data([], 2)

    def test_not_iterated_over(self):
        with self.assertRaises(TypeError):
            list(Data.of((1,)))


class TestMade(unittest.TestCase):

    def test_each_number(self):
        for one in NUMBERS:
            self.assertEqual(Data([(one,)]).rows, ((one,),))
            for other in NUMBERS:
                self.assertEqual(Data([(one, other)]).rows, ((one, other),))

    def test_rows_and_width(self):
        for rows, width in [([(1,), (None,)], 1), ([(1, None), (None, None), (1, None)], 2)]:
            for given in [rows, tuple(rows)]:
                data = Data(given)
                self.assertEqual((data.rows, data.width), (tuple(rows), width))
                self.assertIs(type(data.rows), tuple)

    def test_no_rows(self):
        for given in [[], ()]:
            self.assertEqual((Data(given).rows, Data(given).width), ((), 1))
            for width in [1, 2]:
                data = Data(given, width=width)
                self.assertEqual((data.rows, data.width), ((), width))

    def test_no_rows_and_a_wrong_width(self):
        for width in [0, 3] + all_but():
            with self.assertRaises(BadData, msg=repr(width)):
                Data([], width=width)
            with self.assertRaises(BadData, msg=repr(width)):
                Data((), width=width)

    def test_width_is_not_looked_at_beside_rows(self):
        for width in [1, 2, 0, 3] + all_but():
            self.assertEqual(Data([(1,)], width=width).width, 1)
            self.assertEqual(Data([(1, 1)], width=width).width, 2)

    def test_300_rows_and_301(self):
        for row in [(None,), (1, 2)]:
            self.assertEqual(len(Data([row] * 300).rows), 300)
            self.assertEqual(len(Data.of(*[row] * 300).rows), 300)
            for many in [301, 302, 1000]:
                with self.assertRaises(BadData):
                    Data([row] * many)
                with self.assertRaises(BadData):
                    Data((row,) * many)
                with self.assertRaises(BadData):
                    Data.of(*[row] * many)

    def test_not_a_list_or_tuple(self):
        things = all_but(list, tuple) + ["ab", {(1,): 1}, {(1,)}, iter([(1,)]), collections.deque([(1,)]),
                                         Data.of((1,)), Data([]), Marks((0,), (0,)), ((1,) for _ in range(2))]
        for thing in things:
            with self.assertRaises(BadData, msg=repr(thing)):
                Data(thing)

    def test_wrong_rows(self):
        for wrong in NO_ROWS:
            for rows in [[wrong], (wrong,), [wrong, (1,)], [(1,), wrong], [(1, 1), wrong], [(1,), wrong, (1,)]]:
                with self.assertRaises(BadData, msg=repr(rows)):
                    Data(rows)
                with self.assertRaises(BadData, msg=repr(rows)):
                    Data(rows, width=2)
                with self.assertRaises(BadData, msg=repr(rows)):
                    Data.of(*rows)

    def test_rows_of_other_lengths(self):
        for rows in [[(1,), (1, 2)], [(1, 2), (1,)], [(1,), ()], [(1,), (1,), (1, 1)], [(1, 2), (1, 2, 3)]]:
            with self.assertRaises(BadData, msg=repr(rows)):
                Data(rows)
            with self.assertRaises(BadData, msg=repr(rows)):
                Data.of(*rows)

    def test_of(self):
        self.assertEqual(Data.of((1,)), Data([(1,)]))
        self.assertEqual(Data.of((1, None), (2, 3)), Data([(1, None), (2, 3)]))
        self.assertIs(type(Data.of((1,))), Data)
        with self.assertRaises(BadData):
            Data.of()
        with self.assertRaises(BadData):
            Data.of([(1,)])

    def test_integers_of_a_subclass(self):
        self.assertEqual(Data([(Whole(3),)]), Data.of((3,)))

    def test_argument_is_not_modified_or_kept(self):
        rows = [(1,), (None,)]
        data = Data(rows)
        self.assertEqual(rows, [(1,), (None,)])
        rows.append((2,))
        rows[0] = (3,)
        self.assertEqual(data.rows, ((1,), (None,)))

    def test_properties_cannot_be_assigned(self):
        data = Data.of((1,))
        with self.assertRaises(AttributeError):
            data.rows = ()
        with self.assertRaises(AttributeError):
            data.width = 2


class TestSum(unittest.TestCase):

    def test_rows_of_both(self):
        self.assertEqual(Data.of((1,), (2,)) + Data.of((1,), (None,)), Data.of((1,), (2,), (1,), (None,)))
        self.assertEqual(Data.of((1, 2)) + Data.of((None, 0)), Data.of((1, 2), (None, 0)))

    def test_no_rows(self):
        for width, data in [(1, Data.of((1,))), (2, Data.of((1, 2)))]:
            none = Data([], width=width)
            self.assertEqual([none + data, data + none, none + none], [data, data, none])

    def test_other_width(self):
        for one in [Data([]), Data.of((1,)), Data([(1,)] * 300)]:
            for other in [Data([], width=2), Data.of((1, 2)), Data([(1, 2)] * 300)]:
                with self.assertRaises(BadData):
                    one + other
                with self.assertRaises(BadData):
                    other + one

    def test_too_many(self):
        for row in [(1,), (None, 2)]:
            self.assertEqual(len(Data([row] * 299) + Data.of(row)), 300)
            self.assertEqual(len(Data([row] * 300) + Data([], width=len(row))), 300)
            with self.assertRaises(BadData):
                Data([row] * 300) + Data.of(row)
            with self.assertRaises(BadData):
                Data([row] * 151) + Data([row] * 150)

    def test_not_data(self):
        for thing in all_but() + [[(1,)], ((1,),), Marks((0,), (0,))]:
            with self.assertRaises(BadData, msg=repr(thing)):
                Data.of((1,)) + thing


class TestOneMore(unittest.TestCase):

    def test_one_more(self):
        self.assertEqual(Data.of((1,)) << (None,), Data.of((1,), (None,)))
        self.assertEqual(Data.of((1, 2)) << (None, 9), Data.of((1, 2), (None, 9)))
        self.assertEqual(Data([]) << (0,) << (1,), Data.of((0,), (1,)))
        self.assertEqual(Data([], width=2) << (0, None), Data.of((0, None)))

    def test_not_a_row(self):
        for wrong in NO_ROWS:
            for data in ordinary():
                with self.assertRaises(BadRow, msg=repr(wrong)):
                    data << wrong

    def test_other_width(self):
        for one, row in [(Data([]), (1, 2)), (Data.of((1,)), (1, 2)), (Data([], width=2), (1,)),
                         (Data.of((1, 2)), (None,))]:
            with self.assertRaises(BadRow):
                one << row

    def test_too_many(self):
        self.assertEqual(len(Data([(1,)] * 299) << (1,)), 300)
        self.assertEqual(len(Data([(1, 1)] * 299) << (1, 1)), 300)
        with self.assertRaises(BadData):
            Data([(1,)] * 300) << (1,)
        with self.assertRaises(BadData):
            Data([(1, None)] * 300) << (1, None)

    def test_row_is_checked_before_the_number(self):
        for wrong in [(1, 2), (10,), (True,), [1], None]:
            with self.assertRaises(BadRow):
                Data([(1,)] * 300) << wrong


class TestTimes(unittest.TestCase):

    def test_times(self):
        data = Data.of((1,), (None,))
        for times in range(5):
            due = Data([(1,), (None,)] * times)
            self.assertEqual([data * times, times * data], [due, due])
        pairs = Data.of((1, 2), (None, 3))
        self.assertEqual([pairs * 2, 2 * pairs], [Data.of((1, 2), (None, 3), (1, 2), (None, 3))] * 2)

    def test_zero_times(self):
        for data in ordinary():
            due = Data([], width=data.width)
            self.assertEqual([data * 0, 0 * data], [due, due])

    def test_once_is_equal(self):
        for data in ordinary():
            self.assertEqual([data * 1, 1 * data], [data, data])

    def test_no_rows_very_often(self):
        for times in [2, 300, 301, 10 ** 6, 2 ** 63, 10 ** 40]:
            for width in [1, 2]:
                due = Data([], width=width)
                self.assertEqual([due * times, times * due], [due, due])

    def test_too_many(self):
        self.assertEqual(len(Data.of((1,), (2,)) * 150), 300)
        self.assertEqual(len(300 * Data.of((1, 2))), 300)
        for data, times in [(Data.of((1,)), 301), (Data.of((1, 2), (3, 4)), 151), (Data([(1,)] * 300), 2),
                            (Data.of((1,)), 10 ** 40), (Data([(1,)] * 300), 10 ** 12)]:
            with self.assertRaises(BadData):
                data * times
            with self.assertRaises(BadData):
                times * data

    def test_not_an_integer_from_0_on(self):
        for thing in all_but(int) + [-1, -(10 ** 40)]:
            for data in [Data([]), Data.of((1,))]:
                with self.assertRaises(BadData, msg=repr(thing)):
                    data * thing


class TestWithoutTheBeginning(unittest.TestCase):

    def test_each_number(self):
        for data in ordinary():
            for many in range(len(data.rows) + 1):
                self.assertEqual(data >> many, Data(data.rows[many:], width=data.width))

    def test_all(self):
        for data in ordinary():
            self.assertEqual(data >> len(data.rows), Data([], width=data.width))

    def test_not_such_a_number(self):
        for data in ordinary():
            for many in all_but(int) + [-1, -10 ** 40, len(data.rows) + 1, len(data.rows) + 2, 301, 10 ** 40]:
                with self.assertRaises(BadNumber, msg=repr(many)):
                    data >> many


class TestInCommon(unittest.TestCase):

    def test_each_beginning(self):
        rows = [(1,), (None,), (1,), (2,)]
        for many in range(5):
            for more in range(5):
                self.assertEqual(Data(rows[:many]) & Data(rows[:more]), Data(rows[:min(many, more)]))

    def test_only_the_beginning(self):
        one, other = Data.of((1,), (2,), (3,), (4,)), Data.of((1,), (0,), (3,), (4,))
        self.assertEqual([one & other, other & one], [Data.of((1,))] * 2)
        self.assertEqual((Data.of((None,), (1,)) & Data.of((0,), (1,))), Data([]))

    def test_two_columns(self):
        one, other = Data.of((1, 2), (None, 2), (0, 0)), Data.of((1, 2), (None, None), (0, 0))
        self.assertEqual(one & other, Data.of((1, 2)))
        self.assertEqual(one & Data.of((0, 2)), Data([], width=2))
        self.assertEqual(one & Data([], width=2), Data([], width=2))

    def test_with_itself(self):
        for data in ordinary():
            self.assertEqual(data & data, data)

    def test_refused(self):
        for one, other in [(Data([]), Data([], width=2)), (Data.of((1,)), Data.of((1, 2)))]:
            with self.assertRaises(BadData):
                one & other
            with self.assertRaises(BadData):
                other & one
        for thing in all_but() + [[(1,)], Marks((0,), (0,))]:
            with self.assertRaises(BadData, msg=repr(thing)):
                Data.of((1,)) & thing


class TestBeginnings(unittest.TestCase):

    def test_each_pair(self):
        rows = [row for many in range(4) for row in itertools.product([(None,), (0,)], repeat=many)]
        for one in rows:
            for other in rows:
                begins = other[:len(one)] == one
                self.assertIs(Data(one) <= Data(other), begins)
                self.assertIs(Data(one) < Data(other), begins and one != other)
                if begins:
                    self.assertEqual(Data(other) - Data(one), Data(other[len(one):]))
                else:
                    with self.assertRaises(BadData):
                        Data(other) - Data(one)

    def test_two_columns(self):
        one, other = Data.of((1, None)), Data.of((1, None), (2, 0))
        self.assertEqual([one <= other, one < other, other <= one, other < one], [True, True, False, False])
        self.assertEqual([one <= one, one < one], [True, False])
        self.assertEqual(other - one, Data.of((2, 0)))
        self.assertFalse(Data.of((1, 0)) <= other)

    def test_other_width(self):
        for one in [Data([]), Data.of((1,))]:
            for other in [Data([], width=2), Data.of((1, 2))]:
                self.assertEqual([one <= other, one < other, other <= one, other < one], [False] * 4)
                with self.assertRaises(BadData):
                    one - other
                with self.assertRaises(BadData):
                    other - one

    def test_all_and_nothing_left(self):
        for data in ordinary():
            none = Data([], width=data.width)
            self.assertEqual([data - data, data - none], [none, data])

    def test_not_data(self):
        for thing in all_but() + [[(1,)], ((1,),), Marks((0,), (0,))]:
            with self.assertRaises(BadData, msg=repr(thing)):
                Data.of((1,)) <= thing
            with self.assertRaises(BadData, msg=repr(thing)):
                Data.of((1,)) < thing
            with self.assertRaises(BadData, msg=repr(thing)):
                Data.of((1,)) - thing


class TestLengthsAndItems(unittest.TestCase):

    def test_length(self):
        for many in [0, 1, 2, 299, 300]:
            self.assertEqual([len(Data([(1,)] * many)), len(Data([(1, 2)] * many))], [many, many])

    def test_how_often_nothing_stands(self):
        self.assertEqual(abs(Data([])), 0)
        self.assertEqual(abs(Data.of((0,), (1,), (9,))), 0)
        self.assertEqual(abs(Data.of((None,), (0,), (None,))), 2)
        self.assertEqual(abs(Data.of((None, None), (None, 0), (0, None), (0, 0))), 4)
        self.assertEqual(abs(Data([(None, None)] * 300)), 600)

    def test_item(self):
        rows = [(1,), (None,), (2,)]
        self.assertEqual([Data(rows)[index] for index in range(3)], rows)
        self.assertEqual(Data.of((1, None))[0], (1, None))
        self.assertEqual(Data([(0,)] * 299 + [(5,)])[299], (5,))

    def test_no_such_item(self):
        for data in ordinary():
            for index in all_but(int) + [-1, -2, len(data.rows), len(data.rows) + 1, 300, 10 ** 40, slice(0, 1)]:
                with self.assertRaises(BadNumber, msg=repr(index)):
                    data[index]

    def test_row_in_data(self):
        data = Data.of((1,), (None,), (0,))
        for row in [(1,), (None,), (0,)]:
            self.assertIs(row in data, True)
        for row in [(2,), (9,), (1, None), (1, 1)]:
            self.assertIs(row in data, False)
        pairs = Data.of((1, None), (0, 2))
        self.assertEqual([row in pairs for row in [(1, None), (0, 2), (None, 1), (1,), (0, 0)]],
                         [True, True, False, False, False])

    def test_any_thing_in_data(self):
        for data in ordinary():
            for thing in NO_ROWS + [(1.0,), 1.0, [None], [1, None]]:
                self.assertIs(thing in data, False, repr(thing))

    def test_booleans_in_data(self):
        data = Data.of((1,), (0,))
        self.assertEqual([(True,) in data, (False,) in data], [False, False])
        self.assertIs((True, False) in Data.of((1, 0)), False)


class TestEqual(unittest.TestCase):

    def test_equal(self):
        for one, other in zip(ordinary(), ordinary()):
            self.assertIs(one == other, True)
            self.assertIs(one != other, False)

    def test_unlike(self):
        for at, one in enumerate(ordinary()):
            for index, other in enumerate(ordinary()):
                self.assertEqual([one == other, one != other], [at == index, at != index])

    def test_other_order(self):
        self.assertNotEqual(Data.of((1,), (2,)), Data.of((2,), (1,)))

    def test_other_things(self):
        for data in ordinary():
            for thing in all_but() + [Marks((0,), (0,)), data.rows, list(data.rows)]:
                self.assertIs(data == thing, False)
                self.assertIs(data != thing, True)


class TestNothingChanges(unittest.TestCase):

    def test_operands_stay(self):
        one, other = Data.of((1,), (None,), (2,)), Data.of((1,), (None,))
        one + other, one << (1,), one * 2, 2 * one, one >> 1, one & other, one <= other, one < other, one - other
        len(one), abs(one), one[0], (1,) in one, one == other
        self.assertEqual([one.rows, one.width], [((1,), (None,), (2,)), 1])
        self.assertEqual([other.rows, other.width], [((1,), (None,)), 1])

    def test_operands_stay_where_refused(self):
        full, pairs = Data([(1,)] * 300), Data.of((1, 2))
        for call in [lambda: full + full, lambda: full << (1,), lambda: full * 2, lambda: full >> 301,
                     lambda: full & pairs, lambda: pairs - full, lambda: full[300]]:
            with self.assertRaises((BadData, BadNumber)):
                call()
        self.assertEqual([full.rows, full.width], [((1,),) * 300, 1])
        self.assertEqual([pairs.rows, pairs.width], [((1, 2),), 2])

    def test_in_place_signs_make_other_data(self):
        data = Data.of((1,))
        same = data
        data += Data.of((2,))
        self.assertEqual([data, same], [Data.of((1,), (2,)), Data.of((1,))])
        data <<= (3,)
        data *= 2
        data >>= 5
        self.assertEqual([data, same], [Data.of((3,)), Data.of((1,))])


class TestRowsFor(unittest.TestCase):

    def test_small(self):
        self.assertEqual(rows_for(1, 2), [(None,), (0,), (1,), (2,)])
        self.assertEqual(rows_for(2, 1), [(None, None), (None, 0), (None, 1), (0, None), (0, 0), (0, 1), (1, None),
                                          (1, 0), (1, 1)])

    def test_each(self):
        for width, top in itertools.product([1, 2], [1, 2, 3, 4]):
            worths = [None] + list(range(top + 1))
            rows = rows_for(width, top)
            self.assertIs(type(rows), list)
            self.assertEqual(rows, list(itertools.product(worths, repeat=width)))
            self.assertTrue(all(type(row) is tuple for row in rows))

    def test_rows_are_rows_of_data(self):
        for width, top in itertools.product([1, 2], [1, 2, 3, 4]):
            self.assertEqual(Data(rows_for(width, top)).width, width)

    def test_list_is_new(self):
        rows = rows_for(1, 1)
        rows.clear()
        self.assertEqual(rows_for(1, 1), [(None,), (0,), (1,)])

    def test_wrong_width(self):
        for width in all_but(int) + [-1, 0, 3, 10 ** 40]:
            with self.assertRaises(BadNumber, msg=repr(width)):
                rows_for(width, 1)

    def test_wrong_top(self):
        for top in all_but(int) + [-1, 0, 5, 9, 10 ** 40]:
            for width in [1, 2]:
                with self.assertRaises(BadNumber, msg=repr(top)):
                    rows_for(width, top)


if __name__ == "__main__":
    unittest.main()
