"""Tests of lackmark.alike."""

import itertools
import unittest

from lackmark import alike
from lackmark.alike import Alike, Parted, are_alike, compare, is_honest, parting_rows
from lackmark.data import Data
from lackmark.errors import BadProgram, TooLarge, Unequal
from lackmark.marks import Marks
from lackmark.programs import Program
from lackmark.spoiling import Never
from tests import accounts, oracle
from tests.cases import TOTAL, TWELVE, TWELVE_AND_ONE, TWENTY_FIVE, WRONG, TestCase

def slow(many):
    """Return two programs that part in the row with this number, the first one being 1, and in none before."""
    count = ("find", "a", "a", (1, 2, 3, 4, 4))
    return [Program(4, Marks((None,), (None, None)), (4 - many, 4), (count, ("same", "a", "b", skip), ("tell", "b")))
            for skip in (0, 1)]


class TestExamples(TestCase):

    def test_compared(self):
        found = [is_honest(TOTAL), is_honest(WRONG), are_alike(TOTAL, WRONG), parting_rows(WRONG, ~WRONG),
                 compare(WRONG, ~WRONG).shows(WRONG, ~WRONG)]
        self.assertEqual(found, [True, False, True, 1, True])

    def test_evidence(self):
        found = [Parted(Data.of((1,), (None,))).shows(WRONG, ~WRONG),
                 Parted(Data.of((None,), (1,))).shows(WRONG, ~WRONG),
                 Alike([((1,), (1,)), ((2,), (2,))]).shows(TOTAL, WRONG)]
        for one, due in zip(found, [True, False, True]):
            self.assertIs(one, due)


class TestInterface(TestCase):

    def test_defined_here(self):
        for name in ["compare", "are_alike", "parting_rows", "is_honest", "Alike", "Parted"]:
            self.assertEqual(getattr(alike, name).__module__, "lackmark.alike")
        for kind in [Alike, Parted]:
            self.assert_methods(kind, "__init__", "shows", "__eq__")

    def test_attributes_are_of_the_objects(self):
        self.assertEqual(vars(Alike([((1,), (1,))])), {"pairs": [((1,), (1,))]})
        self.assertEqual(vars(Parted(Data([]))), {"data": Data([])})
        self.assertFalse(hasattr(Alike, "pairs") or hasattr(Parted, "data"))

    def test_names_of_parameters(self):
        self.assertEqual(compare(one=WRONG, other=TOTAL), compare(WRONG, TOTAL))
        self.assertEqual([are_alike(one=WRONG, other=TOTAL), parting_rows(one=WRONG, other=~WRONG),
                          is_honest(program=WRONG)], [True, 1, False])
        self.assertIs(Alike(pairs=[]).shows(one=WRONG, other=TOTAL), False)
        self.assertIs(Parted(data=Data.of((None,))).shows(one=WRONG, other=~WRONG), True)


class TestCompare(TestCase):

    def test_as_the_document_says(self):
        kinds = set()
        for chance in oracle.chances(250):
            one = oracle.random_program(chance, registers=chance.choice([1, 1, 2]))
            other = accounts.alike_twin(chance, one)
            first, rows, move = accounts.first_pair(one, other), oracle.all_rows(one), accounts.pair_move(one, other)
            if len(accounts.fewest_rows_by(first, rows, move)) > 300:
                self.assert_refused(TooLarge, lambda: compare(one, other))
                continue
            fewest, found = accounts.fewest_by(first, rows, move), compare(one, other)
            kinds.add((type(found), fewest))
            self.assertEqual(parting_rows(one, other), fewest, (one.steps, other.steps))
            self.assertIs(are_alike(one, other), fewest is None)
            if fewest is None:
                self.assertIs(type(found), Alike)
                self.assertTrue(accounts.never_by(found.pairs, first, rows, move))
            else:
                self.assertIs(type(found), Parted)
                self.assertTrue(accounts.only_last_by(first, found.data.rows, move))
            self.assertIs(found.shows(one, other), True)
        self.assertGreaterEqual(kinds, {(Alike, None), (Parted, 1), (Parted, 2)})

    def test_other_registers_marks_and_numbers_of_steps(self):
        one = Program.of(("tell", 0))
        other = Program(2, Marks((1,), (0, None, 2)), (1, 2, 0), (("set", "c", 1), ("tell", "c"), ("tell", 0)))
        self.assertEqual([parting_rows(one, other), are_alike(one, one)], [1, True])
        same = Program(2, Marks((0,), (0, None, 2)), (1, 2, 0), (("set", "c", 1), ("tell", 0)))
        self.assertEqual(compare(one, same).pairs[0], ((0,), (1, 2, 0)))
        self.assertIs(compare(one, same).shows(one, same), True)

    def test_marks_make_what_is_told_unlike(self):
        one = Program.of(("tell", 0))
        self.assertIs(are_alike(one, one % Marks((None,), (0,))), False)
        self.assertEqual(compare(one, one % Marks((None,), (0,))).data, Data.of((0,)))
        self.assertIs(are_alike(one % Marks((None,), (None,)), one % Marks((None,), (1,))), True)

    def test_empty_places_and_own_objects_are_told_as_none(self):
        one = Program.of(("copy", "a", 0), ("tell", "a"), marks=Marks((None,), (1,)))
        other = Program.of(("copy", "a", 0), ("tell", "a"), marks=Marks((1,), (1,)))
        # At a, the own object and the mark stand for nothing, and a true 1 is the mark there.
        self.assertIs(are_alike(one, other), True)
        self.assertEqual(compare(one, other).pairs[1], ((None,), (1,)))

    def test_as_few_rows_as_possible(self):
        for many in [1, 2, 3, 4]:
            one, other = slow(many)
            self.assertEqual(parting_rows(one, other), many)
            self.assertEqual(len(compare(one, other).data), many)

    def test_of_each_order(self):
        self.assertEqual(parting_rows(~WRONG, WRONG), 1)
        self.assertIs(are_alike(WRONG, TOTAL), True)

    def test_returned_objects_are_new(self):
        compare(TOTAL, WRONG).pairs.clear()
        self.assertIs(compare(TOTAL, WRONG).shows(TOTAL, WRONG), True)
        found = compare(WRONG, ~WRONG)
        found.data = None
        self.assertIs(compare(WRONG, ~WRONG).shows(WRONG, ~WRONG), True)


class TestHonest(TestCase):

    def test_as_the_document_says(self):
        kinds = set()
        for chance in oracle.chances(120):
            program = oracle.random_program(chance, registers=1)
            other = accounts.with_own_objects(program)
            first, move = accounts.first_pair(program, other), accounts.pair_move(program, other)
            due = accounts.fewest_by(first, oracle.all_rows(program), move) is None
            kinds.add(due)
            self.assertIs(is_honest(program), due, program.steps)
        self.assertEqual(kinds, {False, True})

    def test_own_objects_are_honest(self):
        for chance in oracle.chances(40):
            self.assertIs(is_honest(~oracle.random_program(chance, registers=2)), True)

    def test_events_that_are_never_seen(self):
        self.assertIs(is_honest(Program.of(("plus", "a", 0), begin=(1,))), True)


class TestTooLarge(TestCase):

    def test_just_300_pairs(self):
        found = compare(TWENTY_FIVE, TWELVE)
        self.assertIs(type(found), Alike)
        self.assertEqual(len(found.pairs), 300)
        self.assertEqual(len(set(found.pairs)), 300)
        self.assertIs(found.shows(TWENTY_FIVE, TWELVE), True)
        self.assertIsNone(parting_rows(TWENTY_FIVE, TWELVE))

    def test_more(self):
        for call in [compare, are_alike, parting_rows]:
            self.assert_refused(TooLarge, lambda: call(TWENTY_FIVE, TWELVE_AND_ONE))
            self.assert_refused(TooLarge, lambda: call(TWELVE_AND_ONE, TWENTY_FIVE))

    def test_behind_rows_in_which_they_part(self):
        loud = Program(4, TWELVE.marks, TWELVE.begin, TWELVE.steps + (("tell", 0),))
        self.assertEqual(parting_rows(TWENTY_FIVE, loud), 1)
        loud = Program(4, TWELVE_AND_ONE.marks, TWELVE_AND_ONE.begin, TWELVE_AND_ONE.steps + (("tell", 0),))
        for call in [compare, are_alike, parting_rows]:
            self.assert_refused(TooLarge, lambda: call(TWENTY_FIVE, loud))

    def test_honest(self):
        program = Program(4, Marks((4,), (4, 4, 1)), (2, 0, 3),
                          (("lack", "a", 2), ("turn", "b", "c"), ("copy", "c", 0), ("most", "a", "b")))
        wide = Program(4, Marks((1,), (2, None, 2)), (None, 1, 3),
                       (("over", "b", 0, 3), ("turn", "c", "a"), ("turn", "b", "c"), ("copy", "a", 0)))
        for one, due in [(program, 297), (wide, 372)]:
            first, move = accounts.first_pair(one, ~one), accounts.pair_move(one, ~one)
            self.assertEqual(len(accounts.fewest_rows_by(first, oracle.all_rows(one), move)), due)
        self.assertIs(is_honest(program), True)
        self.assert_refused(TooLarge, lambda: is_honest(wide))

    def test_evidence_is_not_refused(self):
        pairs = [(accounts.first_contents(TWENTY_FIVE), accounts.first_contents(TWELVE_AND_ONE))]
        self.assertIs(Alike(pairs).shows(TWENTY_FIVE, TWELVE_AND_ONE), False)
        self.assertIs(Parted(Data.of((1,))).shows(TWENTY_FIVE, TWELVE_AND_ONE), False)


class TestAlikeShows(TestCase):

    def test_each_list_of_pairs(self):
        outcomes = set()
        for chance in oracle.chances(60):
            one = oracle.random_program(chance, top=1, columns=1, registers=1)
            other = accounts.alike_twin(chance, one)
            if len(other.begin) > 1:
                continue
            every = list(itertools.product(oracle.all_stands(one), oracle.all_stands(other)))
            for _ in range(30):
                some = chance.sample(every, chance.randint(0, 9))
                some = some + [accounts.first_pair(one, other)] * chance.randint(0, 2)
                due = accounts.never_by(some, accounts.first_pair(one, other), oracle.all_rows(one),
                                        accounts.pair_move(one, other))
                outcomes.add(due)
                self.assertIs(Alike(some).shows(one, other), due, (one.steps, other.steps, some))
        self.assertEqual(outcomes, {False, True})

    def test_one_left_out(self):
        for chance in oracle.chances(60):
            one = oracle.random_program(chance, registers=2, top=2)
            found = compare(one, one)
            for at in range(len(found.pairs)):
                self.assertIs(Alike(found.pairs[:at] + found.pairs[at + 1:]).shows(one, one), False)

    def test_more_than_come_about(self):
        for pairs, due in [([((1,), (1,)), ((2,), (2,))], True), ([((2,), (2,)), ((1,), (1,)), ((1,), (1,))], True),
                           ([((1,), (1,)), ((2,), (2,)), ((0,), (0,))], True),
                           ([((1,), (1,)), ((2,), (2,)), ((0,), (1,))], False), ([((2,), (2,))], False), ([], False)]:
            self.assertIs(Alike(pairs).shows(TOTAL, WRONG), due, pairs)

    def test_no_pairs_of_contents(self):
        right = [((1,), (1,)), ((2,), (2,))]
        for wrong in [((3,), (1,)), ((1,), (3,)), ((1,),), ((1,), (1,), (1,)), (), ((True,), (1,)), ((1,), (True,)),
                      ((1, 1), (1,)), ((1,), (1, 1)), ((-1,), (1,)), ((1,), (10 ** 40,)), (1, 1), ((1,), None),
                      ("a", "a"), ((), ())]:
            for pairs in [right + [wrong], [wrong] + right, [wrong]]:
                self.assertIs(Alike(pairs).shows(TOTAL, WRONG), False, wrong)
        self.assertIs(Alike([((True,), (1,)), ((2,), (2,))]).shows(TOTAL, WRONG), False)

    def test_first_pair_is_of_contents(self):
        one = Program.of(("tell", 0), marks=Marks((0,), (2,)))
        self.assertIs(Alike([((2,), (2,))]).shows(one, one), True)
        self.assertIs(Alike([((None,), (None,))]).shows(one, one), False)

    def test_other_programs(self):
        found = compare(TOTAL, WRONG)
        self.assertIs(found.shows(WRONG, TOTAL), True)
        self.assertIs(found.shows(WRONG, ~WRONG), False)
        self.assertIs(found.shows(TOTAL, ~WRONG), False)
        self.assertIs(found.shows(TOTAL, Program.of(("tell", 0), begin=(1,))), False)


class TestPartedShows(TestCase):

    def test_data(self):
        outcomes = set()
        for chance in oracle.chances(120):
            one = oracle.random_program(chance)
            other = accounts.alike_twin(chance, one)
            first, move = accounts.first_pair(one, other), accounts.pair_move(one, other)
            for _ in range(8):
                some = [chance.choice(oracle.all_rows(one)) for _ in range(chance.randint(0, 4))]
                due = accounts.only_last_by(first, some, move)
                outcomes.add((due, len(some)))
                data = Data(some, width=len(one.marks.columns))
                self.assertIs(Parted(data).shows(one, other), due, (one.steps, other.steps, some))
        self.assertGreaterEqual(outcomes, {(True, 1), (True, 2), (False, 0), (False, 1), (False, 2), (False, 3)})

    def test_a_row_too_many_or_too_few(self):
        one, other = slow(3)
        data = compare(one, other).data
        self.assertIs(Parted(data).shows(one, other), True)
        self.assertIs(Parted(data >> 1).shows(one, other), False)
        self.assertIs(Parted(data << (1,)).shows(one, other), False)
        self.assertIs(Parted(Data([])).shows(one, other), False)

    def test_data_that_are_none_of_the_programs(self):
        for data in [Data.of((None, None)), Data.of((3,)), Data.of((None,), (9,)), Data([]), Data([], width=2)]:
            self.assertIs(Parted(data).shows(WRONG, ~WRONG), False)

    def test_what_is_not_of_the_same_length(self):
        one, other = Program.of(("tell", 0)), Program.of(("tell", 0), ("tell", 0))
        self.assertIs(Parted(Data.of((1,))).shows(one, other), True)


class TestAttributes(TestCase):

    def test_copied(self):
        pairs = [((1,), (1,)), ((2,), (2,))]
        found = Alike(pairs)
        pairs.clear()
        self.assertIs(found.shows(TOTAL, WRONG), True)
        found.pairs.append(None)
        self.assertEqual(pairs, [])

    def test_shows_speaks_of_the_current_ones(self):
        found = Alike([((1,), (1,))])
        self.assertIs(found.shows(TOTAL, WRONG), False)
        found.pairs.append(((2,), (2,)))
        self.assertIs(found.shows(TOTAL, WRONG), True)
        found.pairs = [((2,), (2,))]
        self.assertIs(found.shows(TOTAL, WRONG), False)
        found = Parted(Data.of((1,)))
        self.assertIs(found.shows(WRONG, ~WRONG), False)
        found.data = Data.of((None,))
        self.assertIs(found.shows(WRONG, ~WRONG), True)

    def test_equal(self):
        self.assert_equality(Alike([((1,), (1,)), ((2,), (2,))]), Alike([((1,), (1,)), ((2,), (2,))]),
                             [Alike([((2,), (2,)), ((1,), (1,))]), Alike([((1,), (1,))]), Alike([]),
                              Alike([((True,), (1,)), ((2,), (2,))]), Parted(Data.of((1,))), Never([(1,)])])
        self.assertIs(Alike([((0,), (1,))]) == Alike([((False,), (1,))]), False)
        self.assert_equality(Parted(Data.of((1,))), Parted(Data([(1,)])),
                             [Parted(Data.of((2,))), Parted(Data([])), Alike([((1,), (1,))]), Data.of((1,))])


class TestWrongArguments(TestCase):

    def test_programs(self):
        calls = [compare, are_alike, parting_rows, Alike([]).shows, Parted(Data([])).shows]
        for call in calls:
            self.assert_no_programs(lambda thing: call(thing, WRONG), lambda thing: call(WRONG, thing),
                                    lambda thing: call(thing, thing))
        self.assert_no_programs(is_honest)

    def test_unequal(self):
        others = [Program.of(("tell", 0), top=3), Program.of(("tell", 0), marks=Marks((0, 0), (0,))),
                  Program.of(("tell", 0), top=1, marks=Marks((0, 0), (0,)))]
        for other in others:
            for call in [compare, are_alike, parting_rows, Alike([]).shows, Parted(Data([])).shows,
                         Alike([3]).shows, Parted(Data.of((9,))).shows]:
                self.assert_refused(Unequal, lambda: call(WRONG, other), lambda: call(other, WRONG))

    def test_order(self):
        for call in [compare, are_alike, parting_rows, Alike([]).shows, Parted(Data([])).shows]:
            self.assert_refused(BadProgram, lambda: call(None, Program.of(("tell", 0), top=3)),
                                lambda: call(Program.of(("tell", 0), top=3), 1))
        larger = Program(3, Marks((0,), (0,)), (None,), (("tell", 0),))
        for call in [compare, are_alike, parting_rows]:
            self.assert_refused(Unequal, lambda: call(larger, TWENTY_FIVE))

    def test_nothing_changes(self):
        one, twin = [Program.of(("plus", "a", 0), ("tell", "a"), begin=(1,)) for _ in range(2)]
        found = compare(one, ~one), compare(one, TOTAL)
        for evidence in found:
            evidence.shows(one, ~one), evidence.shows(one, TOTAL)
        self.assertEqual([one, compare(one, TOTAL)], [twin, found[1]])


if __name__ == "__main__":
    unittest.main()
