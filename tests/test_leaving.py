"""Tests of lackmark.leaving."""

import itertools
import unittest

from lackmark import leaving
from lackmark.alike import Alike, Parted, compare
from lackmark.data import Data
from lackmark.errors import BadChoice, BadProgram, TooLarge
from lackmark.leaving import Leanest, leanest, most_left, without
from lackmark.marks import Marks
from lackmark.programs import Program
from tests import accounts, oracle
from tests.cases import TOTAL, TestCase, WRONG
from tests.things import Odd, all_but

# Of these, only the first step and the last one are needed.
SLACK = Program.of(("plus", "a", 0), ("copy", "a", "a"), ("same", "a", 0, 0), ("turn", "a", "a"), ("tell", "a"),
                   begin=(1,))


def random_choice(chance, program):
    many = chance.randint(1, min(4, len(program) - 1))
    return tuple(sorted(chance.sample(range(len(program)), many)))


def fewest_parting(one, other):
    """Return how many pairs come about, and the fewest rows by which two programs part, or None."""
    first, rows, move = accounts.first_pair(one, other), oracle.all_rows(one), accounts.pair_move(one, other)
    return len(accounts.fewest_rows_by(first, rows, move)), accounts.fewest_by(first, rows, move)


class TestExamples(TestCase):

    def test_document(self):
        total = Program.of(('lack', 0, 1), ('plus', 'a', 0), ('tell', 'a'), begin=(1,))
        found = leanest(total, (0, 1))
        self.assertEqual([found.left, list(found.doubts), without(total, (1,)).steps, without(total, (0,)).steps,
                          most_left(total, (2,)), found.shows(total, (0, 1)), found.shows(total, (0, 2))],
                         [(0,), [(0, 1)], (('lack', 0, 0), ('tell', 'a')), (('plus', 'a', 0), ('tell', 'a')), 0, True,
                          False])


class TestInterface(TestCase):

    def test_defined_here(self):
        for name in ["without", "leanest", "most_left", "Leanest"]:
            self.assertEqual(getattr(leaving, name).__module__, "lackmark.leaving")
        self.assert_methods(Leanest, "__init__", "shows", "__eq__")

    def test_attributes_are_of_the_objects(self):
        found = Leanest((1,), Alike([]), {(1, 2): Parted(Data([]))})
        self.assertEqual(vars(found), {"left": (1,), "alike": Alike([]), "doubts": {(1, 2): Parted(Data([]))}})

    def test_names_of_parameters(self):
        self.assertEqual(without(program=TOTAL, choice=(1,)), without(TOTAL, (1,)))
        self.assertEqual(leanest(program=TOTAL, choice=(1,)), leanest(TOTAL, (1,)))
        self.assertEqual(most_left(program=TOTAL, choice=(1,)), 0)
        self.assertIs(leanest(TOTAL, (1,)).shows(program=TOTAL, choice=(1,)), True)
        self.assertEqual(Leanest(left=(), alike=Alike([]), doubts={}), Leanest((), Alike([]), {}))


class TestWithout(TestCase):

    def test_each_step(self):
        steps = ("tell", 0), ("plus", "a", 0), ("set", "a", 1), ("find", "a", 0, (1, 1, 1)), ("tell", "a")
        program = Program.of(*steps)
        for many in range(1, 5):
            for choice in itertools.combinations(range(5), many):
                found = without(program, choice)
                self.assertEqual(found.steps, tuple(step for at, step in enumerate(steps) if at not in choice))
                self.assertEqual([found.top, found.marks, found.begin], [program.top, program.marks, program.begin])

    def test_skips(self):
        tells = (("tell", 0), ("tell", "a"), ("tell", 0), ("tell", "a"))
        for skip in [("lack", 0), ("same", 0, "a"), ("over", "a", 0)]:
            for many in range(5):
                program = Program.of(skip + (many,), *tells)
                for choice in [(1,), (2,), (3,), (4,), (1, 2), (2, 3), (1, 4), (1, 2, 3), (2, 3, 4), (1, 2, 3, 4)]:
                    due = many - len([index for index in choice if index <= many])
                    self.assertEqual(without(program, choice)[0], skip + (due,), (many, choice))

    def test_the_step_in_front_of_which_a_skip_ends(self):
        # It ends in front of the next one that is left, or behind all.
        program = Program.of(("lack", 0, 1), ("tell", 0), ("set", "a", 1), ("set", "a", 2), ("tell", "a"))
        self.assertEqual(without(program, (2,)).steps, (("lack", 0, 1), ("tell", 0), ("set", "a", 2), ("tell", "a")))
        self.assertEqual(without(program, (2, 3)).steps, (("lack", 0, 1), ("tell", 0), ("tell", "a")))
        self.assertEqual(without(program, (2, 3, 4)).steps, (("lack", 0, 1), ("tell", 0)))
        self.assertEqual(without(program, (1, 2, 3, 4)).steps, (("lack", 0, 0),))

    def test_skips_that_are_left_out(self):
        program = Program.of(("lack", 0, 2), ("lack", "a", 2), ("tell", 0), ("tell", "a"))
        self.assertEqual(without(program, (0,)).steps, (("lack", "a", 2), ("tell", 0), ("tell", "a")))
        self.assertEqual(without(program, (1,)).steps, (("lack", 0, 1), ("tell", 0), ("tell", "a")))

    def test_as_the_document_says(self):
        for chance in oracle.chances(300):
            program = oracle.random_program(chance, many=chance.randint(2, 8))
            choice = random_choice(chance, program)
            self.assertEqual(without(program, choice), accounts.without_by(program, choice), (program.steps, choice))


class TestLeanest(TestCase):

    def test_as_the_document_says(self):
        outcomes = set()
        for chance in oracle.chances(160):
            program = oracle.random_program(chance, registers=chance.choice([1, 1, 2]), top=chance.choice([1, 2, 3]),
                                            many=chance.randint(2, 6))
            choice = random_choice(chance, program)
            parts = accounts.parts_of(choice)
            known = {part: fewest_parting(program, accounts.without_by(program, part)) for part in parts}
            if max(many for many, _ in known.values()) > 300:
                self.assert_refused(TooLarge, lambda: leanest(program, choice), lambda: most_left(program, choice))
                continue
            due = max(len(part) for part in parts if known[part][1] is None)
            found = leanest(program, choice)
            outcomes.add((len(choice), due))
            self.assertEqual([len(found.left), most_left(program, choice)], [due, due], (program.steps, choice))
            self.assertIn(found.left, parts)
            self.assertTrue(self.alike_holds(program, found.left, found.alike))
            self.assertEqual(list(found.doubts), [part for part in parts if len(part) > due])
            for part, parted in found.doubts.items():
                self.assertTrue(self.parted_holds(program, part, parted))
            self.assertIs(found.shows(program, choice), True)
        self.assertGreaterEqual(outcomes, {(1, 0), (1, 1), (2, 1), (3, 1), (4, 1)})

    def alike_holds(self, program, part, alike):
        other = accounts.without_by(program, part)
        return type(alike) is Alike and accounts.never_by(alike.pairs, accounts.first_pair(program, other),
                                                          oracle.all_rows(program), accounts.pair_move(program, other))

    def parted_holds(self, program, part, parted):
        other = accounts.without_by(program, part)
        return type(parted) is Parted and accounts.only_last_by(accounts.first_pair(program, other), parted.data.rows,
                                                                accounts.pair_move(program, other))

    def test_all_of_them(self):
        found = leanest(SLACK, (1, 2, 3))
        self.assertEqual([found.left, found.doubts, most_left(SLACK, (1, 2, 3))], [(1, 2, 3), {}, 3])
        self.assertIs(found.alike.shows(SLACK, Program.of(SLACK[0], SLACK[4], begin=(1,))), True)

    def test_some_of_them(self):
        found = leanest(SLACK, (0, 1, 2, 3))
        self.assertEqual([found.left, list(found.doubts)], [(1, 2, 3), [(0, 1, 2, 3)]])
        found = leanest(SLACK, (0, 1, 3, 4))
        self.assertEqual([found.left, list(found.doubts)],
                         [(1, 3), [(0, 1, 3), (0, 1, 4), (0, 3, 4), (1, 3, 4), (0, 1, 3, 4)]])

    def test_none_of_them(self):
        found = leanest(SLACK, (0, 4))
        self.assertEqual([found.left, list(found.doubts), most_left(SLACK, (0, 4))], [(), [(0,), (4,), (0, 4)], 0])
        self.assertIs(found.alike.shows(SLACK, SLACK), True)
        self.assertIs(found.shows(SLACK, (0, 4)), True)

    def test_only_together(self):
        program = Program.of(("set", "a", 1), ("set", "a", 2), ("turn", "a", 0), ("tell", 0))
        self.assertEqual(leanest(program, (0, 1, 2)).left, (0, 1, 2))
        # Both of these, but not the second one alone, can be left out.
        program = Program.of(("less", "a", "a"), ("plus", "a", 0), ("tell", "a"), marks=Marks((None,), (None,)),
                             begin=(0,))
        self.assertEqual([most_left(program, (0,)), most_left(program, (1,)), most_left(program, (0, 1))], [0, 0, 0])
        program = Program.of(("find", "a", "a", (1, 0, 2)), ("find", "a", "a", (1, 0, 2)), ("tell", "a"),
                             marks=Marks((None,), (None,)), begin=(0,))
        self.assertEqual([most_left(program, (0,)), most_left(program, (1,)), most_left(program, (0, 1))], [0, 0, 2])

    def test_returned_objects_are_new(self):
        found, due = leanest(SLACK, (0, 1)), leanest(SLACK, (0, 1))
        found.alike.pairs.clear()
        found.doubts[(0, 1)].data = None
        found.doubts.clear()
        found.left = None
        self.assertEqual(leanest(SLACK, (0, 1)), due)
        parteds = list(leanest(SLACK, (0, 4)).doubts.values())
        self.assertEqual(len({id(parted) for parted in parteds}), 3)


class TestTooLarge(TestCase):

    ONE = Program(4, Marks((0,), (3, 0, 2)), (0, 2, None),
                  (("turn", "c", 0), ("less", "c", "b"), ("most", "a", "c"), ("tell", "b"), ("turn", "b", "c"),
                   ("plus", "b", 0)))
    BOTH = Program(4, Marks((3,), (1, None, None)), (4, 1, 0),
                   (("least", "a", 0), ("least", "c", 0), ("most", "c", "b"), ("copy", "b", "a"), ("lack", "c", 1),
                    ("find", "a", 0, (1, 3, 1, 4, 2))))

    def test_any_choice_of_these_steps(self):
        # For one of these steps alone, however few there are for others; and for both, but for neither of them alone.
        outcomes = set()
        for program, choice in [(self.ONE, (5,)), (self.ONE, (0, 5)), (self.ONE, (0, 1)), (self.ONE, (4,)),
                                (self.BOTH, (1,)), (self.BOTH, (5,)), (self.BOTH, (1, 5)), (self.BOTH, (2, 3))]:
            large = [fewest_parting(program, accounts.without_by(program, part))[0] > 300
                     for part in accounts.parts_of(choice)]
            outcomes.add(tuple(large))
            if any(large):
                self.assert_refused(TooLarge, lambda: leanest(program, choice), lambda: most_left(program, choice))
            else:
                self.assertIs(leanest(program, choice).shows(program, choice), True)
        self.assertGreaterEqual(outcomes, {(False, True), (False, False, False, True), (False, False)})
        self.assertIn(True, [large[2] and not large[1] for large in outcomes if len(large) == 4])

    def test_evidence_is_not_refused(self):
        for choice in itertools.combinations(range(6), 2):
            self.assertIs(Leanest((), Alike([]), {}).shows(self.BOTH, choice), False)


class TestShows(TestCase):

    def setUp(self):
        self.choice = (0, 1, 3, 4)
        self.found = leanest(SLACK, self.choice)

    def other(self, left=None, alike=None, doubts=None):
        found = self.found
        return Leanest(found.left if left is None else left, found.alike if alike is None else alike,
                       found.doubts if doubts is None else doubts)

    def test_other_steps_left_out(self):
        self.assertIs(self.found.shows(SLACK, self.choice), True)
        for left in accounts.parts_of((0, 1, 2, 3, 4)) + [(3, 1), (1, 1), (5,), (-1,), (True,), (True, 3), (1, 3, 3),
                                                          ("a",), (None,), (1, 10 ** 40)]:
            self.assertIs(self.other(left=left).shows(SLACK, self.choice), repr(left) == "(1, 3)", left)

    def test_fewer_steps_left_out(self):
        doubts = dict(self.found.doubts)
        for left in [(1,), (3,), ()]:
            alike = compare(SLACK, accounts.without_by(SLACK, left))
            self.assertIs(Leanest(left, alike, doubts).shows(SLACK, self.choice), False)

    def test_another_of_as_many(self):
        program = Program.of(("set", "a", 1), ("tell", 0), ("set", "a", 2))
        for left in [(0,), (2,), (0, 2)]:
            alike = compare(program, accounts.without_by(program, left))
            self.assertIs(type(alike), Alike)
            self.assertIs(Leanest(left, alike, {}).shows(program, (0, 2)), left == (0, 2))
        program = Program.of(("find", "a", "a", (1, 0, 2)), ("find", "a", "a", (1, 0, 2)), ("tell", "a"), ("tell", "b"),
                             ("set", "b", 1), ("set", "b", 1), marks=Marks((None,), (None, None)), begin=(0, 1))
        due = leanest(program, (4, 5))
        self.assertEqual(due.left, (4, 5))

    def test_alikes(self):
        pairs = self.found.alike.pairs
        self.assertGreater(len(pairs), 1)
        for at in range(len(pairs)):
            self.assertIs(self.other(alike=Alike(pairs[:at] + pairs[at + 1:])).shows(SLACK, self.choice), False)
        self.assertIs(self.other(alike=Alike(pairs[::-1] + pairs)).shows(SLACK, self.choice), True)
        self.assertIs(self.other(alike=Alike(pairs + [((0,), (1,))])).shows(SLACK, self.choice), False)
        self.assertIs(self.other(alike=Alike(pairs + [((3,), (3,))])).shows(SLACK, self.choice), False)

    def test_alikes_for_other_programs(self):
        program = Program.of(("set", "b", 1), ("tell", 0), ("set", "b", 2), marks=Marks((0,), (0, 0)),
                             begin=(None, None))
        alike = compare(program, accounts.without_by(program, (0,)))
        self.assertIs(Leanest((0, 2), alike, {}).shows(program, (0, 2)), False)
        alike = compare(program, accounts.without_by(program, (0, 2)))
        self.assertIs(Leanest((0, 2), alike, {}).shows(program, (0, 2)), True)

    def test_doubts(self):
        right = self.found.doubts
        for part in right:
            some = {other: right[other] for other in right if other != part}
            self.assertIs(self.other(doubts=some).shows(SLACK, self.choice), False)
            for data in [Data([]), Data.of((3,)), Data.of((1, 1)), Data.of((None,)), Data.of((1,)),
                         right[part].data << (1,), right[part].data >> 1]:
                other = accounts.without_by(SLACK, part)
                due = len(data) > 0 and data.width == 1 and all(row[0] in (None, 0, 1, 2) for row in data.rows)
                due = due and accounts.only_last_by(accounts.first_pair(SLACK, other), data.rows,
                                                    accounts.pair_move(SLACK, other))
                doubts = right | {part: Parted(data)}
                self.assertIs(self.other(doubts=doubts).shows(SLACK, self.choice), due, (part, data.rows))
        for part in [(1, 3), (0,), (0, 2), (0, 1, 2), (0, 1, 2, 3), (), (4, 0), (0, 0, 1), ("a",), (None,), (9,)]:
            self.assertIs(self.other(doubts=right | {part: Parted(Data.of((1,)))}).shows(SLACK, self.choice), False)
        doubts = {part: right[part] for part in reversed(right)}
        self.assertIs(self.other(doubts=doubts).shows(SLACK, self.choice), True)

    def test_as_many_doubts_about_other_choices(self):
        right = self.found.doubts
        for part in [(1, 3), (0,), (0, 1, 2), (0, 2, 3), (), (9,)]:
            for left in right:
                doubts = {other: right[other] for other in right if other != left} | {part: right[left]}
                self.assertIs(self.other(doubts=doubts).shows(SLACK, self.choice), False)

    def test_booleans_are_no_indices(self):
        for part in [(False, 1, 3), (0, True, 3)]:
            doubts = {part if other == (0, 1, 3) else other: parted for other, parted in self.found.doubts.items()}
            self.assertEqual(len(doubts), len(self.found.doubts))
            self.assertIs(self.other(doubts=doubts).shows(SLACK, self.choice), False)

    def test_other_programs_and_choices(self):
        self.assertIs(self.found.shows(TOTAL, (0, 1)), False)
        self.assertIs(self.found.shows(~SLACK, self.choice), False)
        for choice in [(0, 1, 3), (0, 1, 2, 3), (1, 3), (1, 2, 3, 4)]:
            self.assertIs(self.found.shows(SLACK, choice), False)

    def test_speaks_of_the_current_ones(self):
        pairs = list(self.found.alike.pairs)
        self.found.alike.pairs.clear()
        self.assertIs(self.found.shows(SLACK, self.choice), False)
        self.found.alike = Alike(pairs)
        self.assertIs(self.found.shows(SLACK, self.choice), True)
        parted = self.found.doubts.pop((0, 1, 3))
        self.assertIs(self.found.shows(SLACK, self.choice), False)
        self.found.doubts[(0, 1, 3)] = parted
        self.assertIs(self.found.shows(SLACK, self.choice), True)
        parted.data = Data([])
        self.assertIs(self.found.shows(SLACK, self.choice), False)
        self.found.left = (1,)
        self.assertIs(self.found.shows(SLACK, self.choice), False)


class TestAttributes(TestCase):

    def test_copied(self):
        doubts = {(1,): Parted(Data([]))}
        found = Leanest((), Alike([]), doubts)
        doubts.clear()
        self.assertEqual(len(found.doubts), 1)
        found.doubts[(2,)] = None
        self.assertEqual(doubts, {})

    def test_equal(self):
        one, other = Parted(Data.of((1,))), Parted(Data.of((2,)))
        doubts = {(1,): one, (0, 1): other}
        self.assert_equality(Leanest((0,), Alike([1]), doubts), Leanest((0,), Alike([1]), {(0, 1): other, (1,): one}),
                             [Leanest((1,), Alike([1]), doubts), Leanest((0,), Alike([2]), doubts),
                              Leanest((False,), Alike([1]), doubts), Leanest((0,), Alike([True]), doubts),
                              Leanest((0,), Alike([1]), {(1,): one}), Leanest((0,), one, doubts),
                              Leanest((0,), Alike([1]), {(1,): one, (0, 1): one}),
                              Leanest((0,), Alike([1]), {(True,): one, (0, 1): other}), Alike([1]), one])


class TestWrongArguments(TestCase):

    def calls(self, choice):
        return [lambda program: without(program, choice), lambda program: leanest(program, choice),
                lambda program: most_left(program, choice),
                lambda program: Leanest((), Alike([]), {}).shows(program, choice)]

    def test_programs(self):
        for choice in [(0,), None, (9,), ()]:
            self.assert_no_programs(*self.calls(choice))

    def test_choices(self):
        wrong = [thing for thing in all_but() if repr(thing) != "(1,)"]
        wrong = wrong + [[0], (5,), (-1,), (0, 5), (1, 0), (0, 0), (0, 1, 1), (True,), (0, True), (False,), ("a",)]
        wrong = wrong + [(None,), ((0,),), (10 ** 40,), (Odd(),), (0, 1, 2, 3, 4), {0: 1}, range(1), (0, 1, 3, 2)]
        for choice in wrong:
            calls = [lambda call=call: call(SLACK) for call in self.calls(choice)]
            self.assert_refused(BadChoice, *calls, about=choice)

    def test_not_all_steps(self):
        for many in range(1, 9):
            program = Program.of(*[("tell", 0)] * many)
            for some in range(1, 9):
                choice = tuple(range(some))
                if some <= 4 and some < many:
                    self.assertEqual([len(without(program, choice)), most_left(program, choice)], [many - some, 0])
                else:
                    self.assert_refused(BadChoice, *[lambda call=call: call(program) for call in self.calls(choice)])

    def test_order(self):
        self.assert_refused(BadProgram, lambda: without(None, None))
        self.assert_refused(BadChoice, lambda: leanest(TestTooLarge.ONE, (5, 4)),
                            lambda: most_left(TestTooLarge.ONE, (5, 6)))

    def test_nothing_changes(self):
        program, twin = [Program.of(*SLACK.steps, begin=(1,)) for _ in range(2)]
        found = leanest(program, (0, 1))
        doubts, pairs = dict(found.doubts), list(found.alike.pairs)
        found.shows(program, (0, 1)), without(program, (0,))
        self.assertEqual([program, found.doubts, found.alike.pairs], [twin, doubts, pairs])
        self.assertEqual(WRONG, Program.of(("plus", "a", 0), ("tell", "a"), begin=(1,)))


if __name__ == "__main__":
    unittest.main()
