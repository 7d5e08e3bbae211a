"""Tests of lackmark.mending."""

import itertools
import unittest

from lackmark import mending
from lackmark.data import Data
from lackmark.errors import BadChoice, BadOffers, BadProgram, TooLarge
from lackmark.marks import Marks
from lackmark.mending import Hopeless, Mended, after, least_price, mend
from lackmark.programs import Program
from lackmark.spoiling import Never, Once, happen
from tests import accounts, oracle
from tests.cases import TestCase, WRONG
from tests.test_spoiling import JUST_200, OVER_200
from tests.things import Odd, Whole, all_but

OFFERS = ("own", 0, 2), ("own", "a", 2), ("test", 0, 1)

# One step of each kind that reckons, with another one behind.
RECKONING = {"plus": ("plus", "a", 0), "less": ("less", "b", "a"), "most": ("most", "a", 1), "least": ("least", "b", 0),
             "sort": ("sort", "b", "a"), "find": ("find", "a", 1, (1, 2, None)), "over": ("over", 0, "b", 1)}


def steps_after(steps, *offers, top=2, marks=Marks((0, 1), (2, 0)), begin=(None, None)):
    """Return the steps after all of some offers for a program."""
    program = Program(top, marks, begin, steps)
    return after(program, offers, tuple(range(len(offers)))).steps


def test_of(*indices):
    return tuple(("test", index, 1) for index in indices)


class TestExamples(TestCase):

    def test_document(self):
        offers = ('own', 0, 2), ('own', 'a', 2), ('test', 0, 1)
        found, mended = mend(WRONG, offers), after(WRONG, offers, (0, 2))
        self.assertEqual([found.choice, list(found.doubts), least_price(WRONG, offers[:2]),
                          least_price(WRONG, offers[:1]), mended.steps, mended.marks.columns,
                          found.shows(WRONG, offers)],
                         [(0, 2), [(), (2,), (0,), (1,)], 4, None,
                          (('lack', 'a', 2), ('lack', 0, 1), ('plus', 'a', 0), ('tell', 'a')), (None,), True])


class TestInterface(TestCase):

    def test_defined_here(self):
        for name in ["after", "mend", "least_price", "Mended", "Hopeless"]:
            self.assertEqual(getattr(mending, name).__module__, "lackmark.mending")
        for kind in [Mended, Hopeless]:
            self.assert_methods(kind, "__init__", "shows", "__eq__")

    def test_attributes_are_of_the_objects(self):
        self.assertEqual(vars(Mended((1,), Never([]), {(): Data([])})),
                         {"choice": (1,), "never": Never([]), "doubts": {(): Data([])}})
        self.assertEqual(vars(Hopeless({(): Data([])})), {"doubts": {(): Data([])}})

    def test_names_of_parameters(self):
        self.assertEqual(after(program=WRONG, offers=OFFERS, choice=(0,)).marks.columns, (None,))
        self.assertEqual(mend(program=WRONG, offers=OFFERS), mend(WRONG, OFFERS))
        self.assertEqual(least_price(program=WRONG, offers=OFFERS), 3)
        self.assertIs(mend(WRONG, OFFERS).shows(program=WRONG, offers=OFFERS), True)
        self.assertIs(Hopeless(doubts={}).shows(program=WRONG, offers=OFFERS), False)
        self.assertEqual(Mended(choice=(), never=Never([]), doubts={}), Mended((), Never([]), {}))


class TestAfter(TestCase):

    def test_nothing_chosen(self):
        self.assertEqual(after(WRONG, OFFERS, ()), WRONG)

    def test_own_objects_and_other_marks(self):
        program = Program(3, Marks((0, 1), (2, 0, None)), (None, 1, 0), (("tell", 0),))
        for place in [0, 1, "a", "b", "c"]:
            self.assertEqual(after(program, (("own", place, 1),), (0,)).marks, program.marks | {place: None})
            for number in range(4):
                offers = (("mark", place, number, 9),)
                if (place, number) in [("b", 1), ("c", 0)]:
                    self.assert_refused(BadChoice, lambda: after(program, offers, (0,)))
                else:
                    self.assertEqual(after(program, offers, (0,)), program % (program.marks | {place: number}))

    def test_several_offers_for_one_place(self):
        offers = ("mark", 0, 1, 1), ("own", 0, 1), ("mark", 0, 2, 1), ("mark", "a", 1, 1), ("mark", "a", 2, 1)
        for choice, mark in [((0,), 1), ((0, 1), None), ((0, 1, 2), 2), ((1, 2), 2), ((0, 2), 2)]:
            self.assertEqual(after(WRONG, offers, choice).marks, Marks((mark,), (0,)))
        # The begin 1 is the mark for a while, but not at last.
        self.assertEqual(after(WRONG, offers, (3, 4)).marks, Marks((0,), (2,)))
        self.assert_refused(BadChoice, lambda: after(WRONG, offers, (3,)))

    def test_each_reckoning_step(self):
        for word, step in RECKONING.items():
            operands = [step[at] for at in accounts.OPERANDS[word]]
            if len(operands) == 1:
                due = (("lack", operands[0], 1), step, ("tell", 0))
            else:
                due = (("lack", operands[0], 2), ("lack", operands[1], 1), step, ("tell", 0))
            self.assertEqual(steps_after((step, ("tell", 0)), ("test", 0, 1)), due)

    def test_one_place_twice(self):
        for word in ["plus", "less", "most", "least"]:
            self.assertEqual(steps_after(((word, "b", "b"),), ("test", 0, 1)),
                             (("lack", "b", 2), ("lack", "b", 1), (word, "b", "b")))

    def test_tested_once(self):
        for offers in [test_of(1), test_of(1, 1), test_of(1, 1, 1)]:
            self.assertEqual(steps_after((("tell", 0), ("plus", "a", 0)), *offers),
                             (("tell", 0), ("lack", "a", 2), ("lack", 0, 1), ("plus", "a", 0)))

    def test_several_steps(self):
        self.assertEqual(steps_after((("find", "a", 0, (0, 1, 2)), ("plus", "a", 1)), *test_of(1, 0)),
                         (("lack", 0, 1), ("find", "a", 0, (0, 1, 2)), ("lack", "a", 2), ("lack", 1, 1),
                          ("plus", "a", 1)))

    def test_skips_end_in_front_of_tests(self):
        steps = ("lack", 0, 1), ("tell", 0), ("find", "a", 0, (0, 1, 2)), ("tell", "a")
        self.assertEqual(steps_after(steps, *test_of(2)), steps[:2] + (("lack", 0, 1),) + steps[2:])
        for many, due in [(0, 0), (1, 1), (2, 4), (3, 5)]:
            steps = ("same", 0, "a", many), ("tell", 0), ("plus", "a", 0), ("tell", "a")
            found = steps_after(steps, *test_of(2))
            self.assertEqual(found[0], ("same", 0, "a", due))
            self.assertEqual(found[1:], (("tell", 0), ("lack", "a", 2), ("lack", 0, 1)) + steps[2:])

    def test_skips_in_front_of_the_tests_of_the_next_step(self):
        steps = ("lack", 0, 0), ("plus", "a", 0), ("tell", "a")
        self.assertEqual(steps_after(steps, *test_of(1))[0], ("lack", 0, 0))

    def test_skips_behind_the_last_step(self):
        steps = ("over", 0, 1, 2), ("plus", "a", 0), ("find", "a", 0, (0, 1, 2))
        self.assertEqual(steps_after(steps, *test_of(1, 2)),
                         (("over", 0, 1, 5), ("lack", "a", 2), ("lack", 0, 1), steps[1], ("lack", 0, 1), steps[2]))

    def test_steps_that_skip_and_are_tested(self):
        steps = ("over", 0, "a", 1), ("find", "a", 0, (0, 1, 2)), ("tell", "a")
        self.assertEqual(steps_after(steps, *test_of(0, 1)),
                         (("lack", 0, 2), ("lack", "a", 1), ("over", 0, "a", 2), ("lack", 0, 1), steps[1], steps[2]))
        self.assertEqual(steps_after(steps, *test_of(0)),
                         (("lack", 0, 2), ("lack", "a", 1), ("over", 0, "a", 1)) + steps[1:])

    def test_tests_do_not_skip_the_tests_behind(self):
        program = Program.of(("plus", "a", 0), ("plus", "a", 0), begin=(1,))
        found = after(program, test_of(0, 1), (0, 1))
        self.assertEqual(found.steps, (("lack", "a", 2), ("lack", 0, 1), ("plus", "a", 0)) * 2)

    def test_tested_steps_are_not_reckoned(self):
        for chance in oracle.chances(150):
            program = oracle.random_program(chance, many=3)
            tests = [index for index, step in enumerate(program.steps) if step[0] in accounts.OPERANDS]
            offers = test_of(*tests)
            if offers and accounts.mended_by(program, offers, tuple(range(len(offers)))) is not None:
                found = after(program, offers, tuple(range(len(offers))))
                events = [event for event in oracle.fewest(found) if event is not None]
                words = {found.steps[index][0] for index, word, _ in events if word == "reckoned"}
                self.assertLessEqual(words, {"same"})

    def test_not_possible(self):
        nine = (("plus", "a", 0),) * 4
        program = Program.of(*nine)
        self.assertEqual(len(after(program, test_of(0, 1), (0, 1))), 8)
        self.assert_refused(BadChoice, lambda: after(program, test_of(0, 1, 2), (0, 1, 2)))
        seven = Program.of(*(("find", "a", 0, (0, 1, 2)),) * 7)
        self.assertEqual(len(after(seven, test_of(6), (0,))), 8)
        self.assert_refused(BadChoice, lambda: after(seven, test_of(5, 6), (0, 1)))
        self.assert_refused(BadChoice, lambda: after(WRONG, (("mark", "a", 1, 1),), (0,)))
        for offers in [test_of(0, 0, 0, 0, 0), (("mark", "a", 2, 1), ("mark", "a", 1, 1), ("own", "a", 1))]:
            self.assertIsInstance(after(WRONG, offers, tuple(range(len(offers)))), Program)

    def test_as_the_document_says(self):
        outcomes = set()
        for chance in oracle.chances(250):
            program = oracle.random_program(chance)
            offers = accounts.random_offers(chance, program)
            possible = accounts.possible_by(program, offers)
            for choice in accounts.all_choices(offers):
                outcomes.add((len(choice), choice in possible))
                if choice in possible:
                    self.assertEqual(after(program, offers, choice), possible[choice], (program.steps, offers, choice))
                else:
                    self.assert_refused(BadChoice, lambda: after(program, offers, choice))
        self.assertGreaterEqual(outcomes, {(many, kind) for many in range(1, 6) for kind in (False, True)})


class TestMend(TestCase):

    def test_as_the_document_says(self):
        kinds = set()
        for chance in oracle.chances(150):
            program = oracle.random_program(chance, registers=chance.choice([1, 2]), many=chance.randint(1, 4))
            offers = accounts.random_offers(chance, program)
            possible = accounts.possible_by(program, offers)
            fewest = {choice: oracle.fewest(possible[choice]).get(None) for choice in possible}
            clean = [choice for choice in possible if fewest[choice] is None]
            found = mend(program, offers)
            kinds.add((type(found), len(clean) > 1))
            if clean:
                price = accounts.price_of(offers, clean[0])
                self.assertIs(type(found), Mended)
                self.assertEqual(least_price(program, offers), price)
                self.assertIn(found.choice, clean)
                self.assertEqual(accounts.price_of(offers, found.choice), price)
                self.assertTrue(oracle.never_holds(possible[found.choice], None, found.never.stands))
                cheaper = [choice for choice in possible if accounts.price_of(offers, choice) < price]
            else:
                self.assertIs(type(found), Hopeless)
                self.assertIsNone(least_price(program, offers))
                cheaper = list(possible)
            self.assertEqual(list(found.doubts), cheaper)
            for choice, data in found.doubts.items():
                self.assertTrue(accounts.spoils_by(possible[choice], data.rows))
            self.assertIs(found.shows(program, offers), True)
        self.assertEqual(kinds, {(Mended, False), (Mended, True), (Hopeless, False)})

    def test_nothing_to_mend(self):
        found = mend(~WRONG, OFFERS)
        self.assertEqual([found.choice, found.doubts, least_price(~WRONG, OFFERS)], [(), {}, 0])
        self.assertIs(found.shows(~WRONG, OFFERS), True)

    def test_order_of_doubts(self):
        offers = ("mark", 0, 1, 3), ("mark", 0, 1, 1), ("mark", 0, 2, 1), ("mark", 0, 0, 2), ("mark", 0, 0, 1)
        found = mend(WRONG, offers)
        self.assertIs(type(found), Hopeless)
        self.assertEqual(list(found.doubts), accounts.all_choices(offers))
        self.assertEqual(list(found.doubts)[:9],
                         [(), (1,), (2,), (4,), (1, 2), (1, 4), (2, 4), (3,), (0,)])
        self.assertEqual(len(found.doubts), 32)

    def test_the_greatest_prices(self):
        found = mend(WRONG, (("own", 0, 9),) * 5)
        self.assertEqual([len(found.doubts), list(found.doubts)[-1]], [32, (0, 1, 2, 3, 4)])
        marks = Marks((0, 0), (0, 0, 0))
        program = Program(2, marks, (None,) * 3, (("tell", 0), ("tell", 1), ("tell", "a"), ("plus", "b", "c"),
                                                  ("turn", "a", 1)))
        offers = tuple(("own", place, 9) for place in [0, 1, "a", "b", "c"])
        self.assertEqual([least_price(program, offers), mend(program, offers).choice], [45, (0, 1, 2, 3, 4)])

    def test_choices_that_are_not_possible_are_left_out(self):
        offers = ("mark", "a", 1, 1), ("own", 0, 1), ("own", "a", 5)
        found = mend(WRONG, offers)
        self.assertEqual([found.choice, list(found.doubts)], [(1, 2), [(), (1,), (2,)]])
        self.assertIs(type(mend(WRONG, offers[:1])), Hopeless)
        self.assertEqual(list(mend(WRONG, offers[:1]).doubts), [()])
        # The mark is the begin for a while, but not at last.
        self.assertEqual(list(mend(WRONG, (offers[0], offers[2])).doubts), [(), (1,), (0, 1)])

    def test_the_least_price(self):
        offers = ("own", 0, 9), ("own", "a", 9), ("own", 0, 4), ("own", "a", 6), ("test", 0, 7)
        self.assertEqual([least_price(WRONG, offers), mend(WRONG, offers).choice], [10, (2, 3)])
        self.assertEqual([least_price(WRONG, offers[:2]), least_price(WRONG, offers[:4])], [18, 10])

    def test_returned_objects_are_new(self):
        found, due = mend(WRONG, OFFERS), mend(WRONG, OFFERS)
        found.doubts.clear()
        found.never.stands.clear()
        found.choice = None
        self.assertEqual(mend(WRONG, OFFERS), due)
        found = mend(WRONG, OFFERS[:1])
        found.doubts.clear()
        self.assertEqual(len(mend(WRONG, OFFERS[:1]).doubts), 2)


class TestTooLarge(TestCase):

    def test_just_200_stands(self):
        offers = ("own", 0, 1), ("own", "b", 1)
        found = mend(JUST_200, offers)
        self.assertIs(found.shows(JUST_200, offers), True)
        self.assertEqual(found.choice, (0,))
        self.assertEqual(sorted(found.never.stands, key=repr), sorted(oracle.depths(JUST_200), key=repr))

    def test_more(self):
        for offers in [(("own", 0, 1),), (("own", 0, 1), ("own", "a", 1)), (("mark", "b", 1, 9), ("test", 0, 3))]:
            self.assert_refused(TooLarge, lambda: mend(OVER_200, offers), lambda: least_price(OVER_200, offers),
                                lambda: mend(~OVER_200, offers), lambda: least_price(~OVER_200, offers))

    def test_even_if_a_cheaper_choice_is_found(self):
        # With the test, more stands come about; without it, no event can happen.
        steps = ("least", "a", "c"), ("copy", "c", "b"), ("plus", "b", "c"), ("copy", "b", "a"), ("copy", "a", 0)
        program, offers = Program(4, Marks((None,), (None,) * 3), (0, 0, 0), steps), (("own", 0, 1), ("test", 0, 9))
        self.assertEqual([len(oracle.depths(one)) > 200 for one in accounts.possible_by(program, offers).values()],
                         [False, False, True, True])
        self.assertEqual([type(happen(program)), least_price(program, offers[:1])], [Never, 0])
        self.assert_refused(TooLarge, lambda: mend(program, offers), lambda: least_price(program, offers))

    def test_evidence_is_not_refused(self):
        self.assertIs(Hopeless({}).shows(OVER_200, OFFERS[:1]), False)
        data = Data.of((0,))
        self.assertIs(Hopeless({(): data, (0,): data}).shows(OVER_200, (("own", "b", 1),)), True)


class TestShows(TestCase):

    def setUp(self):
        self.found = mend(WRONG, OFFERS)

    def test_each_change_of_what_is_found(self):
        outcomes = {False: 0, True: 0}
        for chance in oracle.chances(50):
            program = oracle.random_program(chance, registers=1, many=chance.randint(1, 4))
            offers = accounts.random_offers(chance, program, chance.randint(1, 3))
            possible, found = accounts.possible_by(program, offers), mend(program, offers)
            for choice in accounts.all_choices(offers):
                doubts = dict(found.doubts)
                if choice in doubts and chance.random() < 0.5:
                    doubts[choice] = Data.of(chance.choice(oracle.all_rows(program)))
                elif choice in doubts:
                    del doubts[choice]
                else:
                    doubts[choice] = Data.of(chance.choice(oracle.all_rows(program)))
                due = self.doubts_hold(found, doubts, possible, offers)
                outcomes[due] += 1
                other = Hopeless(doubts) if isinstance(found, Hopeless) else Mended(found.choice, found.never, doubts)
                self.assertIs(other.shows(program, offers), due, (program.steps, offers, choice))
        self.assertTrue(min(outcomes.values()) > 20, outcomes)

    def doubts_hold(self, found, doubts, possible, offers):
        due = set(possible)
        if isinstance(found, Mended):
            price = accounts.price_of(offers, found.choice)
            due = {choice for choice in possible if accounts.price_of(offers, choice) < price}
        return set(doubts) == due and all(accounts.spoils_by(possible[one], doubts[one].rows) for one in doubts)

    def test_choices(self):
        for choice in accounts.all_choices(OFFERS) + [(3,), (0, 3), (2, 0), (0, 0, 2), (-1,), (True,), (0, 1, 2, 3),
                                                      (0, 2, 2), ("a",), (None,), (False, 2)]:
            other = Mended(choice, self.found.never, self.found.doubts)
            self.assertIs(other.shows(WRONG, OFFERS), repr(choice) == "(0, 2)", choice)
        right = after(WRONG, OFFERS, (0, 1))
        doubts = {choice: happen(after(WRONG, OFFERS, choice)).data for choice in [(), (2,), (0,), (1,)]}
        dearer = Mended((0, 1), happen(right), doubts)
        self.assertIs(dearer.shows(WRONG, OFFERS), False)
        for choice, price in [((0, 2), 1), ((0, 1), 1)]:
            offers = ("own", 0, 2), ("own", "a", price), ("test", 0, price)
            other = Mended(choice, happen(after(WRONG, offers, choice)), self.doubts_of(offers, choice))
            self.assertIs(other.shows(WRONG, offers), True)

    def doubts_of(self, offers, choice):
        price, found = accounts.price_of(offers, choice), {}
        for other in accounts.all_choices(offers):
            if accounts.price_of(offers, other) < price:
                found[other] = happen(after(WRONG, offers, other)).data
        return found

    def test_nevers(self):
        mended, more = after(WRONG, OFFERS, (0, 2)), [(1,), (2,), (0,)]
        for stands, due in [([(1,), (2,)], True), ([(1,)], False), ([], False), ([(2,)], False),
                            ([(1,), (2,), (3,)], False), (more, oracle.never_holds(mended, None, more))]:
            self.assertIs(Mended((0, 2), Never(stands), self.found.doubts).shows(WRONG, OFFERS), due, stands)

    def test_doubts(self):
        right = self.found.doubts
        for data in [Data([]), Data([], width=2), Data.of((1,)), Data.of((3,)), Data.of((0, 0)), Data.of((9,)),
                     Data.of((None,), (1,))]:
            for choice in right:
                other = Mended((0, 2), self.found.never, right | {choice: data})
                due = accounts.spoils_by(after(WRONG, OFFERS, choice), data.rows)
                self.assertIs(other.shows(WRONG, OFFERS), due, (choice, data.rows))
        for choice in list(right):
            some = {other: right[other] for other in right if other != choice}
            self.assertIs(Mended((0, 2), self.found.never, some).shows(WRONG, OFFERS), False)
        for choice in [(0, 1), (1, 2), (0, 2), (0, 1, 2), (3,), (1, 0), (0, 0), (10,), ("a",), (None,), (-1,)]:
            for data in [Data.of((0,)), Data.of((None,))]:
                self.assertIs(Mended((0, 2), self.found.never, right | {choice: data}).shows(WRONG, OFFERS), False)

    def test_as_many_doubts_about_other_choices(self):
        data = Data.of((0,))
        for choice in [(0, 1), (0, 2), (0, 1, 2), (3,), (4,)]:
            for left in self.found.doubts:
                doubts = {other: self.found.doubts[other] for other in self.found.doubts if other != left}
                self.assertIs(Mended((0, 2), self.found.never, doubts | {choice: data}).shows(WRONG, OFFERS), False)
        self.assertIs(Hopeless({(): data, (1,): data}).shows(WRONG, OFFERS[:1]), False)

    def test_booleans_are_no_indices(self):
        doubts = {(True,) if choice == (1,) else choice: data for choice, data in self.found.doubts.items()}
        self.assertIs(Mended((0, 2), self.found.never, doubts).shows(WRONG, OFFERS), False)
        hopeless = mend(WRONG, OFFERS[:1])
        doubts = {(False,) if choice == (0,) else choice: data for choice, data in hopeless.doubts.items()}
        self.assertIs(hopeless.shows(WRONG, OFFERS[:1]), True)
        self.assertIs(Hopeless(doubts).shows(WRONG, OFFERS[:1]), False)

    def test_doubts_in_any_order(self):
        doubts = {choice: self.found.doubts[choice] for choice in reversed(self.found.doubts)}
        self.assertIs(Mended((0, 2), self.found.never, doubts).shows(WRONG, OFFERS), True)

    def test_choices_that_are_not_possible(self):
        offers = ("mark", "a", 1, 1), ("own", 0, 1), ("own", "a", 5)
        found = mend(WRONG, offers)
        self.assertIs(found.shows(WRONG, offers), True)
        doubts = found.doubts | {(0,): Data.of((0,))}
        self.assertIs(Mended(found.choice, found.never, doubts).shows(WRONG, offers), False)
        self.assertIs(Mended((0,), Never([(1,)]), {(): Data.of((0,))}).shows(WRONG, offers), False)

    def test_hopeless(self):
        found = mend(WRONG, OFFERS[:1])
        self.assertIs(found.shows(WRONG, OFFERS[:1]), True)
        self.assertIs(found.shows(WRONG, OFFERS[1:2]), accounts.spoils_by(after(WRONG, OFFERS[1:2], (0,)),
                                                                          found.doubts[(0,)].rows))
        self.assertIs(found.shows(WRONG, OFFERS), False)
        self.assertIs(Hopeless({}).shows(WRONG, OFFERS[:1]), False)
        self.assertIs(Hopeless({}).shows(~WRONG, OFFERS[:1]), False)
        self.assertIs(Hopeless(self.found.doubts).shows(WRONG, OFFERS), False)

    def test_other_programs_and_offers(self):
        self.assertIs(self.found.shows(~WRONG, OFFERS), False)
        self.assertIs(self.found.shows(WRONG, OFFERS[::-1]), False)
        self.assertIs(self.found.shows(WRONG, (("own", 0, 2), ("own", "a", 2), ("test", 0, 3))), False)

    def test_speaks_of_the_current_ones(self):
        doubt = self.found.doubts.pop(())
        self.assertIs(self.found.shows(WRONG, OFFERS), False)
        self.found.doubts[()] = doubt
        self.assertIs(self.found.shows(WRONG, OFFERS), True)
        self.found.never.stands.clear()
        self.assertIs(self.found.shows(WRONG, OFFERS), False)
        self.found.never = Never([(1,), (2,)])
        self.assertIs(self.found.shows(WRONG, OFFERS), True)
        self.found.choice = (0, 1)
        self.assertIs(self.found.shows(WRONG, OFFERS), False)


class TestAttributes(TestCase):

    def test_copied(self):
        doubts = {(): Data.of((0,))}
        mended, hopeless = Mended((1,), Never([]), doubts), Hopeless(doubts)
        doubts.clear()
        self.assertEqual([len(mended.doubts), len(hopeless.doubts)], [1, 1])
        mended.doubts.clear()
        self.assertEqual(len(hopeless.doubts), 1)

    def test_equal(self):
        data, other = Data.of((0,)), Data.of((1,))
        self.assert_equality(Mended((1,), Never([(1,)]), {(): data, (0,): other}),
                             Mended((1,), Never([(1,)]), {(0,): other, (): data}),
                             [Mended((2,), Never([(1,)]), {(): data, (0,): other}),
                              Mended((1,), Never([(2,)]), {(): data, (0,): other}),
                              Mended((True,), Never([(1,)]), {(): data, (0,): other}),
                              Mended((1,), Never([(True,)]), {(): data, (0,): other}),
                              Mended((1,), Never([(1,)]), {(): data, (False,): other}),
                              Mended((1,), Never([(1,)]), {(): other, (0,): data}),
                              Mended((1,), Never([(1,)]), {(): data}), Hopeless({(): data, (0,): other}),
                              Mended((1,), Once(data, {(1,): 1}), {(): data, (0,): other})])
        self.assert_equality(Hopeless({(): data, (1,): other}), Hopeless({(1,): other, (): data}),
                             [Hopeless({(): data}), Hopeless({(): data, (1,): data}), Hopeless({}),
                              Hopeless({(): data, (True,): other}), Mended((), Never([]), {(): data, (1,): other})])


class TestWrongArguments(TestCase):

    def calls(self, offers):
        return [lambda program: after(program, offers, ()), lambda program: mend(program, offers),
                lambda program: least_price(program, offers), lambda program: Hopeless({}).shows(program, offers),
                lambda program: Mended((), Never([]), {}).shows(program, offers)]

    def assert_no_offers(self, thing, program=WRONG):
        self.assert_refused(BadOffers, *[lambda call=call: call(program) for call in self.calls(thing)], about=thing)
        self.assert_refused(BadOffers, lambda: after(program, thing, None))

    def test_programs(self):
        for offers in [OFFERS, None, (), ("own",)]:
            self.assert_no_programs(*self.calls(offers))

    def test_no_tuples_of_offers(self):
        for thing in all_but() + [OFFERS[0], list(OFFERS), OFFERS[:1] * 6, OFFERS + (None,), OFFERS + ((),),
                                  (list(OFFERS[0]),), {OFFERS[0]: 1}, (OFFERS,)]:
            self.assert_no_offers(thing)
        for many in range(1, 6):
            self.assertIsInstance(mend(WRONG, OFFERS[:1] * many), Hopeless)

    def test_words_and_lengths(self):
        for offer in [("own", 0), ("own",), ("own", 0, 1, 1), ("mark", 0, 1), ("mark", 0, 1, 1, 1), ("test", 0),
                      ("test", 0, 1, 1), ("Own", 0, 1), ("free", 0, 1), (b"own", 0, 1), (None, 0, 1), (("own",), 0, 1),
                      (["own"], 0, 1), (0, 0, 1), ("mark", 0, 1, 1, 1), ("test",), ("mark", 0)]:
            self.assert_no_offers((offer,))
            self.assert_no_offers(OFFERS + (offer,))

    def test_prices(self):
        for price in all_but(int) + [0, 10, -1, 10 ** 40, True, False, "1"]:
            for offer in [("own", 0), ("mark", 0, 1), ("test", 0)]:
                self.assert_no_offers((offer + (price,),))
        for price in range(1, 10):
            for offer in [("own", 0), ("mark", 0, 1), ("test", 0)]:
                self.assertIsInstance(mend(WRONG, (offer + (price,),)), Hopeless)
        self.assertIsNone(least_price(WRONG, (("own", 0, Whole(9)),)))

    def test_places(self):
        for place in all_but() + [2, -1, "c", "A", True, False, (0,), Odd()]:
            if not (type(place) in (int, str) and place in (0, "a")):
                self.assert_no_offers((("own", place, 1),))
                self.assert_no_offers((("mark", place, 1, 1),))
        for place in [1, "b", "c"]:
            self.assert_no_offers((("own", place, 1),))
            wide = Program(2, Marks((0, 0), (0, 0, 0)), (None,) * 3, (("tell", place),))
            self.assertIsInstance(mend(wide, (("own", place, 1),)), (Mended, Hopeless))

    def test_marks(self):
        for number in all_but(int) + [-1, 3, 9, 10 ** 40, None, True, False]:
            self.assert_no_offers((("mark", 0, number, 1),))
        for top, number in itertools.product(range(1, 5), range(6)):
            program, offers = Program.of(("tell", 0), top=top, marks=Marks((0,), (0,))), (("mark", 0, number, 1),)
            if number <= top:
                self.assertEqual(after(program, offers, (0,)).marks.columns, (number,))
            else:
                self.assert_no_offers(offers, program)

    def test_tests(self):
        for index in all_but(int) + [-1, 2, 10 ** 40, True, False]:
            self.assert_no_offers((("test", index, 1),))
        self.assert_no_offers((("test", 1, 1),))
        for word, form in oracle.FORMS.items():
            step = (word,) + tuple({oracle.REG: "a", oracle.PLACE: 0, oracle.VALUE: 1, oracle.TABLE: (1, 1, 1),
                                    oracle.SKIP: 0}[kind] for kind in form)
            step = ("sort", "a", "b") if word == "sort" else ("same", 0, 1, 0) if word == "same" else step
            step = ("over", 0, 1, 0) if word == "over" else step
            program = Program(2, Marks((0, 0), (0, 0)), (None, None), (("tell", 0), step))
            if word in accounts.OPERANDS:
                self.assertGreater(len(after(program, test_of(1), (0,))), 2)
            else:
                self.assert_no_offers(test_of(1), program)

    def test_choices(self):
        for thing in all_but() + [[0], (3,), (0, 3), (1, 0), (0, 0), (0, 1, 1), (-1,), (True,), (0, True), (False,),
                                  ((0,),), ("a",), (None,), (10 ** 40,), (0, 1, 2, 3), {0: 1}, range(1)]:
            if not (type(thing) is tuple and thing in ((), (1,)) and True not in [part is True for part in thing]):
                self.assert_refused(BadChoice, lambda: after(WRONG, OFFERS, thing), about=thing)

    def test_order(self):
        self.assert_refused(BadProgram, lambda: after(None, None, None))
        self.assert_refused(BadOffers, lambda: after(WRONG, OFFERS * 2, (9,)))
        self.assert_refused(BadOffers, lambda: mend(OVER_200, ()), lambda: least_price(OVER_200, ()))

    def test_nothing_changes(self):
        program, twin = [Program.of(("plus", "a", 0), ("tell", "a"), begin=(1,)) for _ in range(2)]
        found = mend(program, OFFERS)
        doubts = dict(found.doubts)
        found.shows(program, OFFERS), after(program, OFFERS, (0, 1, 2))
        self.assertEqual([program, found.choice, found.doubts], [twin, (0, 2), doubts])


if __name__ == "__main__":
    unittest.main()
