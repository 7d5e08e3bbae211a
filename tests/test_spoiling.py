"""Tests of lackmark.spoiling."""

import itertools
import unittest

from lackmark import spoiling
from lackmark.data import Data
from lackmark.errors import BadEvent, BadProgram, TooLarge
from lackmark.marks import Marks
from lackmark.programs import Program
from lackmark.runs import walk
from lackmark.spoiling import Never, Once, events_of, happen, soonest, stands_of
from tests import oracle
from tests.things import Odd, Whole, all_but

NO_PROGRAMS = all_but() + [Program, (("tell", 0),), Marks((0,), (0,)), Data([]), Never([]), Once(Data([]), {})]

# Reckons with the mark of its column at once, and with the one of its register behind that.
WRONG = Program.of(("plus", "a", 0), ("tell", "a"), begin=(1,))
TOTAL = Program.of(("lack", 0, 1), ("plus", "a", 0), ("tell", "a"), begin=(1,))

# The number 4 is met at b in the 20th row, whatever the rows are; a is counted up to 4, and then b.
LATE = Program.of(("find", "c", "a", (0, 0, 0, 0, 1)), ("find", "a", "a", (1, 2, 3, 4, 0)), ("plus", "b", "c"), top=4,
                  marks=Marks((None,), (None, 4, None)), begin=(0, 0, None))


def shifting(*steps):
    """Return a program that keeps the last three rows, but for what some steps make of them."""
    return Program.of(*steps, ("copy", "c", "b"), ("copy", "b", "a"), ("copy", "a", 0), top=4,
                      marks=Marks((0,), (None,) * 3), begin=(None,) * 3)


# As many stands come about as there may be, one more, and all that there are.
JUST_200 = shifting(("over", "a", 0, 3), ("over", 0, "c", 2), ("less", "c", "c"), ("plus", "b", "b"))
OVER_200 = shifting(("most", "b", "b"), ("same", 0, "c", 1), ("over", "b", "c", 1), ("least", "b", 0))
ALL_216 = shifting()


def ascending(stands, by):
    """Return stands, those by fewer rows first, then ascending, where None is less than each number."""
    return sorted(stands, key=lambda stand: (by[stand], [-1 if worth is None else worth for worth in stand]))


class TestCase(unittest.TestCase):

    def assert_refused(self, kind, *calls):
        for call in calls:
            with self.assertRaises(kind):
                call()


class TestExamples(TestCase):

    def test_what_can_happen(self):
        found = [soonest(TOTAL), soonest(TOTAL, (1, 'reckoned', 0)), happen(TOTAL).data.rows, events_of(WRONG),
                 stands_of(WRONG)]
        self.assertEqual(found, [1, None, ((0,),), {(0, 'met', 0): 1, (0, 'reckoned', 0): 1, (0, 'reckoned', 'a'): 2},
                                 [(1,), (None,), (2,)]])

    def test_evidence(self):
        floors, twice = {(1,): 2, (None,): 1, (2,): 1}, Data.of((None,)) * 2
        found = [Once(twice, floors).shows(WRONG, (0, 'reckoned', 'a')), Once(twice, floors).shows(WRONG),
                 Never([(1,), (2,)]).shows(TOTAL, (1, 'reckoned', 'a')),
                 Never([(1,)]).shows(TOTAL, (1, 'reckoned', 'a'))]
        for one, due in zip(found, [True, False, True, False]):
            self.assertIs(one, due)


class TestInterface(TestCase):

    def test_defined_here(self):
        for name in ["happen", "soonest", "events_of", "stands_of", "Never", "Once"]:
            self.assertEqual(getattr(spoiling, name).__module__, "lackmark.spoiling")

    def test_defined_in_the_class_itself(self):
        for kind in [Never, Once]:
            for name in ["__init__", "shows", "__eq__"]:
                self.assertIn(name, vars(kind))

    def test_attributes_are_of_the_objects(self):
        self.assertEqual(vars(Never([(1,)]))["stands"], [(1,)])
        self.assertEqual(vars(Once(Data([]), {(1,): 1})), {"data": Data([]), "floors": {(1,): 1}})
        for kind, name in [(Never, "stands"), (Once, "data"), (Once, "floors")]:
            self.assertFalse(hasattr(kind, name))

    def test_names_of_parameters(self):
        event = (0, "met", 0)
        self.assertEqual(happen(program=WRONG, event=event), happen(WRONG, event))
        self.assertEqual([soonest(program=WRONG, event=event), soonest(program=WRONG, event=None)], [1, 1])
        self.assertEqual([len(events_of(program=WRONG)), len(stands_of(program=WRONG))], [3, 3])
        self.assertEqual(Never(stands=[(1,)]), Never([(1,)]))
        self.assertEqual(Once(data=Data([]), floors={}), Once(Data([]), {}))
        self.assertIs(happen(WRONG, event).shows(program=WRONG, event=event), True)
        self.assertIs(Never(stands=[(1,)]).shows(program=WRONG, event=event), False)


class TestHappen(TestCase):

    def test_at_once(self):
        for event in [None, (0, "met", 0), (0, "reckoned", 0)]:
            once = happen(WRONG, event)
            self.assertIs(type(once), Once)
            self.assertIs(type(once.data), Data)
            self.assertEqual([len(once.data), once.floors[(1,)], soonest(WRONG, event)], [1, 1, 1])
        self.assertEqual(happen(WRONG, (0, "met", 0)).data, Data.of((0,)))
        self.assertEqual(happen(WRONG, (0, "reckoned", 0)).data, Data.of((None,)))

    def test_later(self):
        once = happen(WRONG, (0, "reckoned", "a"))
        self.assertEqual([once.data.rows[0], len(once.data), once.floors[(1,)]], [(None,), 2, 2])
        self.assertEqual(soonest(WRONG, (0, "reckoned", "a")), 2)
        for event in [None, (2, "met", "b")]:
            once = happen(LATE, event)
            self.assertEqual([soonest(LATE, event), len(once.data), once.floors[LATE.begin]], [20, 20, 20])
            self.assertIs(once.shows(LATE, event), True)

    def test_never(self):
        for program, event in [(WRONG, (1, "met", "a")), (WRONG, (0, "strayed", 0)), (WRONG, (0, "met", "a")),
                               (TOTAL, (1, "reckoned", 0)), (~WRONG, None), (LATE, (0, "reckoned", "a"))]:
            never = happen(program, event)
            self.assertIs(type(never), Never)
            self.assertIs(type(never.stands), list)
            self.assertIn(program.begin, never.stands)
            self.assertIs(never.shows(program, event), True)
            self.assertIsNone(soonest(program, event))

    def test_each_number_of_rows(self):
        for many in [1, 2, 3, 4]:
            program = Program.of(("find", "a", "a", (1, 2, 3, 4, 4)), top=4, marks=Marks((None,), (4,)),
                                 begin=(4 - many,))
            self.assertEqual([soonest(program), events_of(program)], [many, {(0, "met", "a"): many}])

    def test_last_rows(self):
        for event in [None, (2, "met", "b")]:
            data = happen(LATE, event).data
            *before, (_, _, _, events) = walk(LATE, data)
            self.assertEqual(events, [(2, "met", "b")])
            self.assertEqual([events for _, _, _, events in before], [[]] * 19)

    def test_as_the_document_says(self):
        kinds = set()
        for chance in oracle.chances(250):
            program = oracle.random_program(chance)
            fewest = oracle.fewest(program)
            events = oracle.all_events(program)
            for event in [None] + chance.sample(events, min(4, len(events))) + list(fewest)[:3]:
                found = happen(program, event)
                kinds.add((type(found), fewest.get(event)))
                self.assertIs(type(found), Once if event in fewest else Never)
                self.assertEqual(soonest(program, event), fewest.get(event))
                if event in fewest:
                    self.assertEqual(len(found.data), fewest[event])
                    self.assertTrue(oracle.once_holds(program, event, found.data.rows, found.floors))
                else:
                    self.assertTrue(oracle.never_holds(program, event, found.stands))
                self.assertIs(found.shows(program, event), True)
        self.assertGreaterEqual(kinds, {(Never, None), (Once, 1), (Once, 2)})

    def test_returned_objects_are_new(self):
        for program, event in [(WRONG, None), (TOTAL, (1, "reckoned", 0))]:
            found = happen(program, event)
            if isinstance(found, Once):
                found.floors.clear()
                found.data = None
            else:
                found.stands.clear()
            self.assertIs(happen(program, event).shows(program, event), True)


class TestEventsOf(TestCase):

    def test_order(self):
        program = Program.of(("over", 1, 0, 1), ("copy", "b", 1), ("plus", "b", "a"), top=4,
                             marks=Marks((0, 1), (2, 3)), begin=(4, 4))
        self.assertEqual(list(events_of(program).items()),
                         [((0, "met", 0), 1), ((0, "met", 1), 1), ((0, "reckoned", 0), 1), ((0, "reckoned", 1), 1),
                          ((1, "met", 1), 1), ((1, "met", "b"), 1), ((1, "strayed", 1), 1), ((2, "reckoned", "b"), 1)])

    def test_rows(self):
        self.assertEqual(events_of(LATE), {(2, "met", "b"): 20})
        self.assertEqual(list(events_of(WRONG).items()),
                         [((0, "met", 0), 1), ((0, "reckoned", 0), 1), ((0, "reckoned", "a"), 2)])

    def test_none(self):
        for chance in oracle.chances(30):
            self.assertEqual(events_of(~oracle.random_program(chance, registers=1)), {})

    def test_as_the_document_says(self):
        for chance in oracle.chances(200):
            program = oracle.random_program(chance)
            fewest = oracle.fewest(program)
            due = [(event, fewest[event]) for event in oracle.all_events(program) if event in fewest]
            self.assertEqual(list(events_of(program).items()), due)

    def test_dict_is_new(self):
        events_of(WRONG).clear()
        self.assertEqual(len(events_of(WRONG)), 3)
        self.assertIs(type(events_of(WRONG)), dict)


class TestStandsOf(TestCase):

    def test_fewer_rows_first(self):
        self.assertEqual(stands_of(WRONG), [(1,), (None,), (2,)])
        program = Program.of(("plus", "a", 0), top=4, marks=Marks((0,), (0,)), begin=(3,))
        self.assertEqual(stands_of(program), [(3,), (None,), (4,)])
        program = Program.of(("copy", "b", "a"), ("copy", "a", 0), top=1, marks=Marks((0,), (0, None)), begin=(1, 0))
        self.assertEqual(stands_of(program), [(1, 0), (None, 1), (0, 1), (1, 1), (None, None), (None, 0), (0, None),
                                              (0, 0), (1, None)])

    def test_only_the_first_one(self):
        self.assertEqual(stands_of(Program.of(("tell", 0), begin=(2,))), [(2,)])
        self.assertEqual(stands_of(Program.of(("tell", 0))), [(None,)])

    def test_one_behind_the_other(self):
        due = [(0, 0, None)] + [(number % 5, min(4, number // 5), int(number % 5 == 0)) for number in range(1, 21)]
        self.assertEqual(stands_of(LATE)[:21], due)

    def test_behind_events_too(self):
        program = Program.of(("turn", "a", 0), ("tell", "a"))
        self.assertEqual(stands_of(program), [(None,), (0,), (1,), (2,)])
        self.assertEqual(soonest(program), 1)

    def test_as_the_document_says(self):
        for chance in oracle.chances(200):
            program = oracle.random_program(chance)
            by = oracle.depths(program)
            self.assertEqual(stands_of(program), ascending(by, by))

    def test_list_is_new(self):
        stands_of(WRONG).clear()
        self.assertEqual(len(stands_of(WRONG)), 3)
        self.assertIs(type(stands_of(WRONG)), list)


class TestTooLarge(TestCase):

    def test_just_200_stands(self):
        by = oracle.depths(JUST_200)
        self.assertEqual(len(by), 200)
        self.assertEqual(stands_of(JUST_200), ascending(by, by))
        self.assertEqual(soonest(JUST_200), 1)
        self.assertIs(happen(JUST_200).shows(JUST_200), True)
        self.assertEqual(events_of(JUST_200), {event: many for event, many in oracle.fewest(JUST_200).items() if event})
        never = happen(JUST_200, (4, "strayed", "b"))
        self.assertEqual(ascending(never.stands, by), ascending(by, by))
        self.assertIs(never.shows(JUST_200, (4, "strayed", "b")), True)

    def test_more(self):
        self.assertEqual([len(oracle.depths(OVER_200)), len(oracle.depths(ALL_216))], [201, 216])
        for program in [OVER_200, ALL_216, ~OVER_200, shifting(("tell", 0))]:
            for event in [None, (0, "met", 0), (0, "met", "a"), (1, "reckoned", "a")]:
                self.assert_refused(TooLarge, lambda: happen(program, event), lambda: soonest(program, event))
            self.assert_refused(TooLarge, lambda: events_of(program), lambda: stands_of(program))

    def test_whatever_happens_before(self):
        program = shifting(("tell", 0))
        self.assertEqual(oracle.true_run(program, program.begin, (0,))[2][0], (0, "met", 0))
        self.assert_refused(TooLarge, lambda: happen(program, (0, "met", 0)))

    def test_checked_last(self):
        self.assert_refused(BadEvent, lambda: happen(ALL_216, (3, "met", 0)), lambda: soonest(ALL_216, 0))

    def test_evidence_is_not_refused(self):
        every = oracle.all_stands(ALL_216)
        self.assertIs(Never(every).shows(~ALL_216), True)
        self.assertIs(Never(every[1:]).shows(~ALL_216), False)
        self.assertIs(Never(every).shows(ALL_216, (0, "met", 0)), True)
        self.assertIs(Never(every).shows(ALL_216), False)
        self.assertIs(Once(Data.of((0,)), {(None,) * 3: 1}).shows(ALL_216), True)
        with self.assertRaises(BadEvent):
            Never(every).shows(ALL_216, (3, "met", 0))


class TestWrongArguments(TestCase):

    def test_programs(self):
        for thing in NO_PROGRAMS:
            for call in [lambda: happen(thing), lambda: soonest(thing), lambda: events_of(thing),
                         lambda: stands_of(thing), lambda: Never([]).shows(thing),
                         lambda: Once(Data([]), {}).shows(thing), lambda: happen(thing, 1), lambda: soonest(thing, 1),
                         lambda: Never([]).shows(thing, 1), lambda: Once(Data([]), {}).shows(thing, 1)]:
                with self.assertRaises(BadProgram, msg=repr(thing)) as caught:
                    call()
                self.assertIsNone(caught.exception.part)

    def assert_no_event(self, program, thing):
        for call in [happen, soonest, Never([]).shows, Once(Data([]), {}).shows, Never([(1,), (1, 2)]).shows]:
            with self.assertRaises(BadEvent, msg=repr(thing)):
                call(program, thing)

    def test_no_events(self):
        for thing in all_but(None) + [(0, "met"), (0, "met", 0, 0), [0, "met", 0], "met", {0: "met"}, (0, "met", (0,))]:
            self.assert_no_event(WRONG, thing)

    def test_indices(self):
        for thing in all_but(int) + [-1, 2, 3, 10 ** 40, "0"]:
            self.assert_no_event(WRONG, (thing, "met", 0))
        for many in range(1, 9):
            program = Program.of(*[("tell", 0)] * many)
            for index in range(many):
                self.assertEqual(soonest(program, (index, "met", 0)), 1)
            self.assert_no_event(program, (many, "met", 0))

    def test_words(self):
        for thing in all_but() + ["Met", "plus", "tell", "met ", "reckon", b"met", ("met",), ["met"]]:
            self.assert_no_event(WRONG, (0, thing, 0))

    def test_places(self):
        for thing in all_but() + [2, -1, 10 ** 40, "A", "ab", "", b"a", [0], (0,), Odd(), None, True, False]:
            if not (type(thing) in (int, str) and thing in [0, "a"]):
                self.assert_no_event(WRONG, (0, "met", thing))
        marks = Marks((0, 0), (0, 0, 0))
        every = Program.of(("tell", 0), marks=marks, begin=(None,) * 3)
        for columns, registers in itertools.product([1, 2], [1, 2, 3]):
            program = Program.of(("tell", 0), marks=Marks((0,) * columns, (0,) * registers), begin=(None,) * registers)
            for place in oracle.places_of(every):
                if place in oracle.places_of(program):
                    self.assertEqual(soonest(program, (0, "met", place)), 1 if place == 0 else None)
                else:
                    self.assert_no_event(program, (0, "met", place))

    def test_integers_of_a_subclass(self):
        self.assertEqual(soonest(WRONG, (Whole(0), "met", 0)), 1)


class TestNeverShows(TestCase):

    def test_each_list_of_stands(self):
        outcomes = set()
        for chance in oracle.chances(40):
            program = oracle.random_program(chance, top=chance.choice([1, 2]), registers=1)
            events = [None] + chance.sample(oracle.all_events(program), 2) + list(oracle.fewest(program))[:2]
            stands = oracle.all_stands(program)
            for many in range(len(stands) + 1):
                for some, event in itertools.product(itertools.permutations(stands, many), events):
                    due = oracle.never_holds(program, event, list(some))
                    outcomes.add(due)
                    self.assertIs(Never(list(some)).shows(program, event), due, (program.steps, event, some))
        self.assertEqual(outcomes, {False, True})

    def test_one_left_out(self):
        for chance in oracle.chances(80):
            program = ~oracle.random_program(chance, registers=2, top=2)
            never = happen(program)
            for at in range(len(never.stands)):
                self.assertIs(Never(never.stands[:at] + never.stands[at + 1:]).shows(program), False)

    def test_more_than_come_about(self):
        self.assertEqual(stands_of(TOTAL), [(1,), (2,)])
        for stands, due in [([(1,), (2,), (0,)], True), ([(0,), (1,), (2,), (None,)], False),
                            ([(2,), (2,), (1,), (1,)], True), ([(1,), (2,), (3,)], False), ([(0,)], False),
                            ([], False)]:
            self.assertIs(Never(stands).shows(TOTAL, (1, "reckoned", "a")), due, stands)

    def test_not_stands(self):
        for wrong in [(3,), (-1,), (True,), (False,), (1, 1), (), ("1",), ((1,),), ([],), (10 ** 40,), ({},),
                      (None, 1)]:
            for stands in [[(1,), (2,), wrong], [wrong, (1,), (2,)], [wrong]]:
                self.assertIs(Never(stands).shows(TOTAL, (1, "reckoned", "a")), False, stands)
        self.assertIs(Never([(True,), (2,)]).shows(TOTAL, (1, "reckoned", "a")), False)

    def test_other_programs_and_events(self):
        never = Never([(1,), (2,)])
        self.assertIs(never.shows(TOTAL, (1, "reckoned", "a")), True)
        self.assertIs(never.shows(TOTAL, (0, "met", 0)), False)
        self.assertIs(never.shows(TOTAL), False)
        self.assertIs(never.shows(~TOTAL), True)
        self.assertIs(never.shows(WRONG, (1, "met", "a")), False)
        self.assertIs(never.shows(Program.of(("tell", 0), marks=Marks((None,), (0,)))), False)
        self.assertIs(never.shows(Program.of(("tell", "a"), begin=(2,))), True)

    def test_nothing_changes(self):
        never = Never([(2,), (1,)])
        never.shows(TOTAL), never.shows(TOTAL, (1, "reckoned", "a"))
        self.assertEqual(never.stands, [(2,), (1,)])


class TestOnceShows(TestCase):

    def test_each_dict_and_data(self):
        outcomes = set()
        for chance in oracle.chances(12):
            program = oracle.random_program(chance, top=1, registers=1, columns=1)
            fewest = oracle.fewest(program)
            events = [None] + [event for event in fewest if fewest[event] > 1][:2] + list(fewest)[:1]
            stands, rows = oracle.all_stands(program), oracle.all_rows(program)
            for numbers in itertools.product([None, 0, 1, 2, 3], repeat=3):
                floors = {stand: many for stand, many in zip(stands, numbers) if many is not None}
                for many, event in itertools.product(range(3), events):
                    some = [chance.choice(rows) for _ in range(many)]
                    due = oracle.once_holds(program, event, some, floors)
                    outcomes.add((due, many))
                    self.assertIs(Once(Data(some), floors).shows(program, event), due, (program.steps, some, floors))
        self.assertGreaterEqual(outcomes, {(False, 0), (False, 1), (True, 1), (False, 2)})

    def test_each_change_of_what_is_found(self):
        outcomes = {False: 0, True: 0}
        for program, event in [(LATE, None), (LATE, (2, "met", "b")), (WRONG, (0, "reckoned", "a"))]:
            once = happen(program, event)
            for stand, by in itertools.product(list(once.floors) + [(program.top,) * len(program.begin)],
                                                 [-1, 1, None]):
                floors = dict(once.floors)
                if by is None:
                    floors.pop(stand, None)
                else:
                    floors[stand] = floors.get(stand, 2) + by
                due = oracle.once_holds(program, event, once.data.rows, floors)
                outcomes[due] += 1
                self.assertIs(Once(once.data, floors).shows(program, event), due, (stand, by))
        self.assertTrue(outcomes[False] > 40 and outcomes[True] > 1, outcomes)

    def test_floors(self):
        data, event = Data.of((None,), (None,)), (0, "reckoned", "a")
        for floors, due in [({(1,): 2, (None,): 1, (2,): 1}, True), ({(2,): 1, (None,): 1, (1,): 2}, True),
                            ({(1,): 2, (None,): 1, (2,): 2}, True), ({(1,): 2, (None,): 1, (2,): 3}, False),
                            ({(1,): 2, (None,): 1}, False), ({(1,): 2, (2,): 1}, False), ({(1,): 3}, False),
                            ({(1,): 2, (None,): 2, (2,): 1}, False), ({(1,): 1, (None,): 1, (2,): 1}, False),
                            ({(1,): 3, (None,): 2, (2,): 2}, False), ({(1,): 2, (None,): 0, (2,): 1}, False),
                            ({(1,): 2, (None,): 1, (2,): 1, (0,): 1}, True), ({(None,): 1, (2,): 1}, False),
                            ({(1,): 2, (None,): 1, (2,): 1, (0,): 0}, False), ({}, False),
                            ({(1,): 2, (None,): 1, (2,): 1, (0,): 2}, True),
                            ({(1,): 2, (None,): 1, (2,): 1, (0,): -1}, False),
                            ({(1,): 2, (None,): 1, (2,): 1, (0,): 10 ** 40}, False)]:
            self.assertIs(Once(data, floors).shows(WRONG, event), due, floors)

    def test_numbers_that_are_greater_behind_a_row(self):
        program = Program.of(("turn", "b", "a"), ("most", "a", 0), top=1, marks=Marks((None,), (None, 1)), begin=(0, 0))
        floors = {(0, 0): 2, (1, 0): 1, (None, 0): 9, (None, None): 9}
        self.assertIs(Once(Data.of((1,), (None,)), floors).shows(program), True)
        for many, due in [(7, False), (8, True), (10, True)]:
            once = Once(Data.of((1,), (None,)), floors | {(None, None): many})
            self.assertIs(once.shows(program), due, many)

    def test_not_such_floors(self):
        data, event = Data.of((None,), (None,)), (0, "reckoned", "a")
        right = {(1,): 2, (None,): 1, (2,): 1}
        for wrong in [(3,), (-1,), (True, 1), (1, 1), (), ("1",), ((1,),), (10 ** 40,), (None, None)]:
            self.assertIs(Once(data, right | {wrong: 1}).shows(WRONG, event), False, wrong)
        for floors in [{(True,): 2, (None,): 1, (2,): 1}, {(1,): 2, (None,): True, (2,): 1},
                       {(1,): 2, (None,): 1, (2,): True}, {(1,): 2, (None,): 1, (2,): 1, (False,): 1}]:
            self.assertIs(Once(data, floors).shows(WRONG, event), False, floors)
        self.assertIs(Once(Data.of((0,)), {(1,): True}).shows(WRONG), False)
        self.assertIs(Once(Data.of((0,)), {(1,): 1}).shows(WRONG), True)

    def test_data(self):
        floors, event = {(1,): 2, (None,): 1, (2,): 1}, (0, "reckoned", "a")
        for rows, due in [([(None,), (None,)], True), ([(None,), (0,)], True), ([(None,), (2,)], True),
                          ([(None,)], False), ([(None,)] * 3, False), ([(1,), (None,)], False), ([], False),
                          ([(0,), (None,)], False), ([(None,), (3,)], False), ([(9,), (None,)], False),
                          ([(None, None), (None, None)], False)]:
            self.assertIs(Once(Data(rows), floors).shows(WRONG, event), due, rows)

    def test_data_that_are_none_of_the_program(self):
        for data in [Data.of((0, 0)), Data.of((3,)), Data.of((9,)), Data([]), Data([], width=2), Data([(0,)] * 300)]:
            self.assertIs(Once(data, {(1,): 1}).shows(WRONG), False)
            self.assertIs(Once(data, {(1,): len(data.rows)}).shows(WRONG), False)

    def test_event_in_the_last_row_only(self):
        program = Program.of(("plus", "a", 0), top=4, marks=Marks((None,), (4,)), begin=(0,))
        floors = {(0,): 2, (None,): 2, (1,): 1, (2,): 1, (3,): 1, (4,): 1}
        self.assertIs(Once(Data.of((2,), (2,)), floors).shows(program), False)
        self.assertIs(Once(Data.of((4,)), {(0,): 1}).shows(program), True)
        self.assertIs(Once(Data.of((3,)), {(0,): 1}).shows(program), False)

    def test_other_programs_and_events(self):
        once = Once(Data.of((None,), (None,)), {(1,): 2, (None,): 1, (2,): 1})
        self.assertIs(once.shows(WRONG, (0, "reckoned", "a")), True)
        for program, event in [(WRONG, (0, "met", 0)), (WRONG, (0, "reckoned", 0)), (WRONG, None), (~WRONG, None),
                               (WRONG, (1, "reckoned", "a")), (LATE, None), (TOTAL, (1, "reckoned", "a"))]:
            self.assertIs(once.shows(program, event), False)

    def test_nothing_changes(self):
        once = Once(Data.of((None,)), {(2,): 1, (1,): 1})
        once.shows(WRONG), once.shows(WRONG, (0, "met", 0))
        self.assertEqual([once.data, list(once.floors.items())], [Data.of((None,)), [((2,), 1), ((1,), 1)]])


class TestAttributes(TestCase):

    def test_copied(self):
        stands, floors = [(1,), (2,)], {(1,): 1}
        never, once = Never(stands), Once(Data.of((0,)), floors)
        stands.append((9,))
        floors[(2,)] = 5
        self.assertEqual([never.stands, once.floors], [[(1,), (2,)], {(1,): 1}])
        never.stands.clear()
        once.floors.clear()
        self.assertEqual([stands, floors], [[(1,), (2,), (9,)], {(1,): 1, (2,): 5}])

    def test_shows_speaks_of_the_current_ones(self):
        never = Never([(1,)])
        never.stands.append((2,))
        self.assertIs(never.shows(TOTAL, (1, "reckoned", "a")), True)
        never.stands = [(2,)]
        self.assertIs(never.shows(TOTAL, (1, "reckoned", "a")), False)
        once = Once(Data.of((1,)), {(1,): 1})
        self.assertIs(once.shows(WRONG), False)
        once.data = Data.of((0,))
        self.assertIs(once.shows(WRONG), True)
        once.floors[(1,)] = 2
        self.assertIs(once.shows(WRONG), False)
        once.floors = {(1,): 1, (2,): 1}
        self.assertIs(once.shows(WRONG), True)

    def test_equal(self):
        self.assertIs(Never([(1,), (2,)]) == Never([(1,), (2,)]), True)
        self.assertIs(Never([(1,), (2,)]) != Never([(1,), (2,)]), False)
        for stands in [[(2,), (1,)], [(1,)], [(1,), (2,), (2,)], []]:
            self.assertIs(Never([(1,), (2,)]) == Never(stands), False)
            self.assertIs(Never([(1,), (2,)]) != Never(stands), True)
        data, floors = Data.of((1,)), {(1,): 2, (None,): 1}
        self.assertIs(Once(data, floors) == Once(Data.of((1,)), {(None,): 1, (1,): 2}), True)
        self.assertIs(Once(data, floors) != Once(Data.of((1,)), {(None,): 1, (1,): 2}), False)
        for other in [Once(Data.of((2,)), floors), Once(data, {(1,): 2}), Once(data, floors | {(None,): 2}),
                      Once(data, {}), Once(Data([]), floors), Once(data, floors | {(2,): 1})]:
            self.assertIs(Once(data, floors) == other, False)
            self.assertIs(Once(data, floors) != other, True)

    def test_equal_after_a_change(self):
        never = Never([(1,)])
        never.stands.append((2,))
        self.assertEqual(never, Never([(1,), (2,)]))
        once = Once(Data.of((1,)), {})
        once.data, once.floors = Data.of((2,)), {(1,): 1}
        self.assertEqual(once, Once(Data.of((2,)), {(1,): 1}))

    def test_booleans_are_not_integers(self):
        self.assertNotEqual(Never([(1,), (0,)]), Never([(True,), (0,)]))
        self.assertNotEqual(Never([(1,), (0,)]), Never([(1,), (False,)]))
        self.assertEqual(Never([(True,)]), Never([(True,)]))
        self.assertNotEqual(Once(Data([]), {(1,): 1}), Once(Data([]), {(True,): 1}))
        self.assertNotEqual(Once(Data([]), {(1,): 1}), Once(Data([]), {(1,): True}))

    def test_other_things(self):
        for thing in all_but() + [[(1,)], {(1,): 1}, Data([]), WRONG]:
            for one in [Never([]), Never([(1,)]), Once(Data([]), {})]:
                self.assertIs(one == thing, False)
                self.assertIs(one != thing, True)
        self.assertIs(Never([]) == Once(Data([]), {}), False)
        self.assertIs(Once(Data([]), {}) == Never([]), False)


if __name__ == "__main__":
    unittest.main()
