"""Tests of lackmark.telling."""

import itertools
import unittest

from lackmark import telling
from lackmark.data import Data
from lackmark.errors import BadProgram, BadWish, TooLarge
from lackmark.marks import Marks
from lackmark.programs import Program
from lackmark.spoiling import Never, Once
from lackmark.telling import Told, Untold, soonest_told, tell
from tests import accounts, oracle
from tests.cases import TestCase, WRONG
from tests.test_spoiling import ALL_216, JUST_200, OVER_200, shifting
from tests.things import Odd, Whole, all_but

# Tells what it counts, from 0 up to 4, one more with each row.
COUNT = Program.of(("tell", "a"), ("find", "a", "a", (1, 2, 3, 4, 4)), top=4, marks=Marks((None,), (None,)), begin=(0,))
ECHO = Program.of(("tell", 0), marks=Marks((None,), (0,)))
MANY = Program.of(*[("tell", 0)] * 8, marks=Marks((None,), (0,)))


def random_wish(chance, program):
    """Return a wish that is often told by a program."""
    rows = [chance.choice(oracle.all_rows(program)) for _ in range(chance.randint(1, 3))]
    if chance.random() < 0.7:
        return tuple(accounts.told_by(program, rows)[-1])
    return oracle.random_worths(chance, program.top, chance.randint(0, 3))


class TestExamples(TestCase):

    def test_document(self):
        wrong = Program.of(('plus', 'a', 0), ('tell', 'a'), begin=(0,),
                           marks=Program.of(('tell', 0)).marks | {'a': 2})
        self.assertEqual([soonest_told(wrong, (1,)), soonest_told(wrong, (None,)), soonest_told(wrong, ()),
                          tell(wrong, (1,)).data.rows, Untold([(0,), (1,), (2,)]).shows(wrong, (2,)),
                          Untold([(0,), (2,)]).shows(wrong, (2,))],
                         [1, 1, None, ((1,),), True, False])


class TestInterface(TestCase):

    def test_defined_here(self):
        for name in ["tell", "soonest_told", "Told", "Untold"]:
            self.assertEqual(getattr(telling, name).__module__, "lackmark.telling")
        for kind in [Told, Untold]:
            self.assert_methods(kind, "__init__", "shows", "__eq__")

    def test_attributes_are_of_the_objects(self):
        self.assertEqual(vars(Told(Data([]), {(1,): 1})), {"data": Data([]), "floors": {(1,): 1}})
        self.assertEqual(vars(Untold([(1,)])), {"contents": [(1,)]})

    def test_names_of_parameters(self):
        self.assertEqual(tell(program=ECHO, wish=(1,)), tell(ECHO, (1,)))
        self.assertEqual(soonest_told(program=ECHO, wish=(1,)), 1)
        self.assertIs(Told(data=Data.of((1,)), floors={(0,): 1}).shows(program=ECHO, wish=(1,)), True)
        self.assertIs(Untold(contents=[(0,)]).shows(program=ECHO, wish=()), True)


class TestTell(TestCase):

    def test_as_the_document_says(self):
        kinds = set()
        for chance in oracle.chances(300):
            program = oracle.random_program(chance, registers=chance.choice([1, 2]))
            wish = random_wish(chance, program)
            first, rows, move = accounts.first_contents(program), oracle.all_rows(program), \
                accounts.wish_move(program, wish)
            fewest, found = accounts.fewest_by(first, rows, move), tell(program, wish)
            kinds.add((type(found), fewest))
            self.assertEqual(soonest_told(program, wish), fewest, (program.steps, wish))
            if fewest is None:
                self.assertIs(type(found), Untold)
                self.assertTrue(accounts.never_by(found.contents, first, rows, move))
            else:
                self.assertIs(type(found), Told)
                self.assertEqual(len(found.data), fewest)
                self.assertTrue(accounts.floors_by(found.floors, first, found.data.rows, rows, move))
            self.assertIs(found.shows(program, wish), True)
        self.assertGreaterEqual(kinds, {(Untold, None), (Told, 1), (Told, 2)})

    def test_later(self):
        for many in range(1, 6):
            found = tell(COUNT, (many - 1,))
            self.assertEqual([soonest_told(COUNT, (many - 1,)), len(found.data), found.floors[(0,)]], [many] * 3)
            self.assertEqual(found.floors, {(number,): many - number for number in range(many)})
        self.assertIsNone(soonest_told(COUNT, (None,)))

    def test_nothing_told(self):
        self.assertEqual([soonest_told(ECHO, ()), soonest_told(WRONG, ())], [None, None])
        self.assertEqual(soonest_told(Program.of(("plus", "a", 0)), ()), 1)
        self.assertEqual(soonest_told(Program.of(("lack", 0, 1), ("tell", 0)), ()), 1)
        late = Program.of(("over", "a", "b", 1), ("tell", 0), ("find", "a", "a", (1, 2, 2)),
                          marks=Marks((None,), (None, None)), begin=(0, 1))
        self.assertEqual(soonest_told(late, ()), 3)

    def test_eight_things(self):
        for wish, due in [((1,) * 8, 1), ((None,) * 8, 1), ((1,) * 7, None), ((1,) * 7 + (2,), None)]:
            self.assertEqual(soonest_told(MANY, wish), due)
        self.assert_refused(BadWish, lambda: tell(MANY, (1,) * 9), lambda: soonest_told(MANY, (1,) * 9))

    def test_just_this(self):
        two = Program.of(("tell", 0), ("tell", "a"), marks=Marks((None,), (0,)), begin=(1,))
        for wish, due in [((2, 1), 1), ((2,), None), ((1, 2), None), ((2, 1, 1), None), ((None, 1), 1), ((), None)]:
            self.assertEqual(soonest_told(two, wish), due, wish)

    def test_plainly(self):
        # A true 0 is told as None, and nothing is reckoned with as 0.
        program = Program.of(("plus", "a", 0), ("tell", 0), ("tell", "a"), marks=Marks((0,), (2,)), begin=(1,))
        self.assertEqual([soonest_told(program, (None, 1)), soonest_told(program, (0, 1)),
                          soonest_told(program, (None, None))], [1, None, 2])

    def test_integers_of_a_subclass(self):
        self.assertEqual(soonest_told(ECHO, (Whole(1),)), 1)

    def test_returned_objects_are_new(self):
        for wish in [(1,), (3 - 3, 0)]:
            found, due = tell(ECHO, wish), tell(ECHO, wish)
            if isinstance(found, Told):
                found.floors.clear()
                found.data = None
            else:
                found.contents.clear()
            self.assertEqual(tell(ECHO, wish), due)


class TestTooLarge(TestCase):

    def test_just_200_contents(self):
        program = ~JUST_200
        move = accounts.wish_move(program, ())
        every = accounts.fewest_rows_by(program.begin, oracle.all_rows(program), move)
        self.assertEqual(len(every), 200)
        self.assertIsNone(soonest_told(program, (1,)))
        found = tell(program, (1,))
        self.assertEqual(set(found.contents), set(every))
        self.assertIs(found.shows(program, (1,)), True)
        self.assertEqual([soonest_told(program, ()), tell(program, ()).shows(program, ())], [1, True])

    def test_more(self):
        for program in [~OVER_200, ~ALL_216, ~shifting(("tell", 0))]:
            for wish in [(), (1,), (None,)]:
                self.assert_refused(TooLarge, lambda: tell(program, wish), lambda: soonest_told(program, wish))

    def test_whatever_is_told_before(self):
        program = ~shifting(("tell", 0))
        self.assertEqual(oracle.plain_run(program, program.begin, (1,))[1], [1])
        self.assert_refused(TooLarge, lambda: tell(program, (1,)))
        self.assertIs(Told(Data.of((1,)), {program.begin: 1}).shows(program, (1,)), True)
        self.assertIs(Untold(oracle.all_stands(program)).shows(program, (1, 1)), True)

    def test_checked_last(self):
        self.assert_refused(BadWish, lambda: tell(~ALL_216, (5,)), lambda: soonest_told(~ALL_216, [1]))


class TestToldShows(TestCase):

    def test_each_dict_and_data(self):
        outcomes = set()
        for chance in oracle.chances(25):
            program = oracle.random_program(chance, top=1, registers=1, columns=1)
            first, rows = accounts.first_contents(program), oracle.all_rows(program)
            for numbers in itertools.product([None, 0, 1, 2, 3], repeat=3):
                floors = {one: many for one, many in zip(oracle.all_stands(program), numbers) if many is not None}
                wish = random_wish(chance, program)
                some = [chance.choice(rows) for _ in range(chance.randint(0, 2))]
                due = accounts.floors_by(floors, first, some, rows, accounts.wish_move(program, wish))
                outcomes.add((due, len(some)))
                self.assertIs(Told(Data(some), floors).shows(program, wish), due, (program.steps, some, floors, wish))
        self.assertGreaterEqual(outcomes, {(False, 0), (False, 1), (True, 1), (False, 2)})

    def test_each_change_of_what_is_found(self):
        found = tell(COUNT, (3,))
        self.assertEqual(found.floors, {(0,): 4, (1,): 3, (2,): 2, (3,): 1})
        outcomes = {False: 0, True: 0}
        for contents, by in itertools.product([(0,), (1,), (2,), (3,), (4,), (None,)], [-2, -1, 1, None]):
            floors = dict(found.floors)
            if by is None:
                floors.pop(contents, None)
            else:
                floors[contents] = floors.get(contents, 2) + by
            due = accounts.floors_by(floors, (0,), found.data.rows, oracle.all_rows(COUNT),
                                     accounts.wish_move(COUNT, (3,)))
            outcomes[due] += 1
            self.assertIs(Told(found.data, floors).shows(COUNT, (3,)), due, floors)
        self.assertTrue(min(outcomes.values()) > 2, outcomes)

    def test_not_such_floors(self):
        right = tell(COUNT, (1,)).floors
        data = Data.of((1,), (2,))
        self.assertIs(Told(data, right).shows(COUNT, (1,)), True)
        for wrong in [(5,), (-1,), (1, 1), (), ("1",), ((1,),), (10 ** 40,), (None, None)]:
            self.assertIs(Told(data, right | {wrong: 1}).shows(COUNT, (1,)), False, wrong)
        for floors in [{(0,): 2, (True,): 1}, {(0,): 2, (1,): True}, {(False,): 2, (1,): 1}, {(0,): 2, (1,): 0},
                       {(0,): 2, (1,): 1, (4,): 0}, {(0,): 2, (1,): 1, (4,): -1}, {}]:
            self.assertIs(Told(data, floors).shows(COUNT, (1,)), False, floors)
        for more, due in [({(4,): 1}, True), ({(4,): 9}, True), ({(3,): 1}, True), ({(3,): 2}, False),
                          ({(3,): 2, (4,): 1}, True), ({(3,): 3, (4,): 1}, False)]:
            self.assertIs(Told(data, {(1,): 1, (0,): 2} | more).shows(COUNT, (1,)), due, more)

    def test_data(self):
        found = tell(COUNT, (2,))
        for data, due in [(Data([(1,)] * 3), True), (Data([(None,)] * 3), True), (Data([(1,)] * 2), False),
                          (Data([(1,)] * 4), False), (Data([]), False), (Data([(1, 1)] * 3), False),
                          (Data([(5,)] * 3), False), (Data([(1,), (1,), (9,)]), False), (Data([], width=2), False)]:
            self.assertIs(Told(data, found.floors).shows(COUNT, (2,)), due)
        self.assertIs(Told(Data([]), {(0,): 0}).shows(COUNT, (2,)), False)

    def test_other_wishes_and_programs(self):
        found = tell(COUNT, (2,))
        for wish in [(1,), (3,), (), (2, 2), (None,)]:
            self.assertIs(found.shows(COUNT, wish), False)
        self.assertIs(found.shows(Program.of(("tell", "a"), top=4, marks=COUNT.marks, begin=(0,)), (2,)), False)

    def test_first_contents_are_written(self):
        program = Program.of(("tell", 0), marks=Marks((None,), (2,)))
        self.assertIs(Told(Data.of((1,)), {(2,): 1}).shows(program, (1,)), True)
        self.assertIs(Told(Data.of((1,)), {(None,): 1}).shows(program, (1,)), False)
        self.assertIs(Untold([(2,)]).shows(program, ()), True)
        self.assertIs(Untold([(None,)]).shows(program, ()), False)


class TestUntoldShows(TestCase):

    def test_each_list_of_contents(self):
        outcomes = set()
        for chance in oracle.chances(60):
            program = oracle.random_program(chance, top=chance.choice([1, 2]), registers=1)
            first, rows, every = accounts.first_contents(program), oracle.all_rows(program), oracle.all_stands(program)
            for many in range(len(every) + 1):
                some, wish = chance.sample(every, many), random_wish(chance, program)
                due = accounts.never_by(some, first, rows, accounts.wish_move(program, wish))
                outcomes.add(due)
                self.assertIs(Untold(some).shows(program, wish), due, (program.steps, wish, some))
        self.assertEqual(outcomes, {False, True})

    def test_one_left_out(self):
        found = tell(COUNT, (None,))
        self.assertEqual(len(found.contents), 5)
        for at in range(5):
            self.assertIs(Untold(found.contents[:at] + found.contents[at + 1:]).shows(COUNT, (None,)), False)
        self.assertIs(Untold(found.contents[::-1] * 2).shows(COUNT, (None,)), True)

    def test_no_contents(self):
        right = tell(COUNT, (None,)).contents
        for wrong in [(5,), (-1,), (True,), (False,), (1, 1), (), ("1",), ((1,),), ([],), (10 ** 40,)]:
            for contents in [right + [wrong], [wrong] + right, [wrong]]:
                self.assertIs(Untold(contents).shows(COUNT, (None,)), False, wrong)
        self.assertIs(Untold(right + [(None,)]).shows(COUNT, (None,)), False)
        self.assertIs(Untold([(0,), (True,), (2,), (3,), (4,)]).shows(COUNT, (None,)), False)
        self.assertIs(Untold([]).shows(COUNT, (None,)), False)


class TestAttributes(TestCase):

    def test_copied(self):
        floors, contents = {(1,): 1}, [(1,)]
        told, untold = Told(Data([]), floors), Untold(contents)
        floors.clear()
        contents.clear()
        self.assertEqual([told.floors, untold.contents], [{(1,): 1}, [(1,)]])
        told.floors[(2,)] = 1
        untold.contents.append(None)
        self.assertEqual([floors, contents], [{}, []])

    def test_shows_speaks_of_the_current_ones(self):
        told = tell(COUNT, (1,))
        told.floors[(0,)] = 3
        self.assertIs(told.shows(COUNT, (1,)), False)
        told.floors = {(0,): 2, (1,): 1}
        self.assertIs(told.shows(COUNT, (1,)), True)
        told.data = Data.of((1,))
        self.assertIs(told.shows(COUNT, (1,)), False)
        untold = tell(COUNT, ())
        last = untold.contents.pop()
        self.assertIs(untold.shows(COUNT, ()), False)
        untold.contents.append(last)
        self.assertIs(untold.shows(COUNT, ()), True)

    def test_equal(self):
        data = Data.of((1,))
        self.assert_equality(Told(data, {(1,): 1, (0,): 2}), Told(Data([(1,)]), {(0,): 2, (1,): 1}),
                             [Told(Data.of((2,)), {(1,): 1, (0,): 2}), Told(data, {(1,): 1}),
                              Told(data, {(1,): 1, (0,): 1}), Told(data, {(True,): 1, (0,): 2}),
                              Told(data, {(1,): True, (0,): 2}), Once(data, {(1,): 1, (0,): 2}), Untold([(1,), (0,)])])
        self.assert_equality(Untold([(1,), (0,)]), Untold([(1,), (0,)]),
                             [Untold([(0,), (1,)]), Untold([(1,)]), Untold([]), Untold([(True,), (0,)]),
                              Untold([(1,), (False,)]), Never([(1,), (0,)])])


class TestWrongArguments(TestCase):

    def test_programs(self):
        for wish in [(1,), None, (9,)]:
            self.assert_no_programs(lambda thing: tell(thing, wish), lambda thing: soonest_told(thing, wish),
                                    lambda thing: Told(Data([]), {}).shows(thing, wish),
                                    lambda thing: Untold([]).shows(thing, wish))

    def test_wishes(self):
        wrong = [thing for thing in all_but() if repr(thing) not in ("()", "(1,)", "(None,)")]
        wrong = wrong + [(3,), (9,), (-1,), (10 ** 40,), (True,), (1, False), ("1",), ((1,),), [1], (Odd(),)]
        for wish in wrong + [(1,) * 9, {1: 1}, "12", (1, 2, 3), Data.of((1,))]:
            self.assert_refused(BadWish, lambda: tell(WRONG, wish), lambda: soonest_told(WRONG, wish),
                                lambda: Told(Data([]), {}).shows(WRONG, wish),
                                lambda: Untold([]).shows(WRONG, wish), about=wish)

    def test_numbers_up_to_the_top(self):
        for top, number in itertools.product(range(1, 5), range(10)):
            program = Program.of(("tell", 0), top=top, marks=Marks((None,), (0,)))
            if number <= top:
                self.assertEqual(soonest_told(program, (number,)), 1)
            else:
                self.assert_refused(BadWish, lambda: tell(program, (number,)))

    def test_nothing_changes(self):
        program, twin = [Program.of(("plus", "a", 0), ("tell", "a"), begin=(1,)) for _ in range(2)]
        told = tell(program, (2,))
        floors = dict(told.floors)
        told.shows(program, (2,)), soonest_told(program, (1,))
        self.assertEqual([program, told.floors], [twin, floors])
        self.assert_refused(BadProgram, lambda: tell(None, ()))


if __name__ == "__main__":
    unittest.main()
