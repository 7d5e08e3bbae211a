"""Tests of lackmark.sessions."""

import unittest

from lackmark import sessions
from lackmark.data import Data
from lackmark.errors import BadData, BadPlace, BadProgram, BadRow, NothingDone
from lackmark.marks import Marks
from lackmark.programs import Program
from lackmark.runs import first_contents, walk
from lackmark.sessions import Session
from tests import accounts, oracle
from tests.cases import TestCase, WRONG
from tests.things import Odd, all_but

WIDE = Program(2, Marks((0, None), (1, None, 0)), (None, 2, 1),
               (("copy", "b", 1), ("plus", "c", 0), ("tell", "a"), ("sort", "b", "c"), ("tell", 1)))


def gone_through(program, *rows):
    session = Session(program)
    for row in rows:
        session += row
    return session


def state_of(session):
    """Return all that the properties tell."""
    return [session.program, session.rows, session.stand, session.plain, session.told, session.events, len(session)]


def state_due(program, rows):
    """Return what the properties tell after some rows, as the oracle says."""
    contents, stand, told, events = accounts.first_contents(program), program.begin, [], []
    for at, row in enumerate(rows):
        contents, things = oracle.plain_run(program, contents, row)
        stand, _, happened = oracle.true_run(program, stand, row)
        told.append(things)
        events += [(at, event) for event in happened]
    return [program, tuple(rows), stand, contents, told, events, len(rows)]


class Stop(Exception):
    """An error that no part of the package knows."""


class TestExamples(TestCase):

    def test_document(self):
        wrong = Program.of(('plus', 'a', 0), ('tell', 'a'), begin=(1,))
        session = Session(wrong)
        self.assertEqual([session.tried([(None,), (1,)]), session.stand, session.plain, session.attempt(len),
                          session.rows, session['a'], session.events, session.branch().told],
                         [[[1], [2]], (1,), (1,), 0, (), 1, [], []])


class TestInterface(TestCase):

    def test_defined_here(self):
        self.assertEqual(Session.__module__, "lackmark.sessions")
        self.assertIs(sessions.Session, Session)
        self.assert_methods(Session, "__init__", "__len__", "__iadd__", "__getitem__", "undo", "branch", "trial",
                            "attempt", "tried")

    def test_properties(self):
        session = Session(WRONG)
        for name in ["program", "rows", "stand", "plain", "told", "events"]:
            self.assertIs(type(vars(Session)[name]), property)
            with self.assertRaises(AttributeError):
                setattr(session, name, None)

    def test_names_of_parameters(self):
        session = Session(program=WRONG)
        self.assertEqual([session.attempt(work=len), session.tried(rows=[])], [0, []])

    def test_kinds(self):
        session = gone_through(WIDE, (None, 1))
        self.assertEqual([type(part) for part in state_of(session)], [Program, tuple, tuple, tuple, list, list, int])
        self.assertEqual([type(part) for part in session.events[0]], [int, tuple])
        self.assertIs(type(session.branch()), Session)


class TestRows(TestCase):

    def test_without_rows(self):
        self.assertEqual(state_of(Session(WRONG)), [WRONG, (), (1,), (1,), [], [], 0])
        self.assertEqual(state_of(Session(WIDE)), [WIDE, (), (None, 2, 1), (1, 2, 1), [], [], 0])

    def test_gone_through(self):
        session = gone_through(WRONG, (None,), (1,), (0,))
        self.assertEqual(state_of(session),
                         [WRONG, ((None,), (1,), (0,)), (None,), (2,), [[1], [2], [2]],
                          [(0, (0, "reckoned", 0)), (1, (0, "reckoned", "a")), (2, (0, "met", 0)),
                           (2, (0, "reckoned", "a"))], 3])

    def test_as_the_document_says(self):
        for chance in oracle.chances(150):
            program = oracle.random_program(chance)
            session, rows = Session(program), []
            for _ in range(12):
                if chance.random() < 0.7 or not rows:
                    rows.append(chance.choice(oracle.all_rows(program)))
                    session += rows[-1]
                else:
                    self.assertEqual(session.undo(), rows.pop())
                self.assertEqual(state_of(session), state_due(program, rows))
            data = Data(rows, width=len(program.marks.columns))
            self.assertEqual([told for _, _, told, _ in walk(program, data)], session.told)

    def test_the_session_stays_the_same_object(self):
        session = other = Session(WRONG)
        session += (1,)
        self.assertIs(session, other)
        self.assertEqual(other.rows, ((1,),))

    def test_no_rows(self):
        session = gone_through(WRONG, (1,))
        wrong = [thing for thing in all_but() if repr(thing) not in ("(1,)", "(None,)")]
        for thing in wrong + [(3,), (1, 1), (-1,), (False,), [1], ((1,),), Data.of((1,)), "1"]:
            with self.assertRaises(BadRow, msg=repr(thing)):
                session += thing
            self.assertEqual(state_of(session), state_due(WRONG, [(1,)]))
        session = gone_through(WIDE, (1, None))
        for thing in [(1,), (1, 1, 1), (1, 3), (3, 1), (1, True), [1, 1], (None,)]:
            with self.assertRaises(BadRow, msg=repr(thing)):
                session += thing

    def test_300_rows(self):
        session = gone_through(WRONG, *[(1,)] * 300)
        self.assertEqual([len(session), len(session.told), len(session.rows)], [300, 300, 300])
        before = state_of(session)
        with self.assertRaises(BadData):
            session += (1,)
        with self.assertRaises(BadRow):
            session += (3,)
        with self.assertRaises(BadData):
            with session.trial() as inner:
                inner += (2,)
        self.assertEqual(state_of(session), before)
        session.undo()
        session += (2,)
        self.assertEqual(len(session), 300)

    def test_what_is_told_is_new(self):
        session = gone_through(WIDE, (None, 1), (2, 2))
        due = state_of(session)
        session.told[0].append(9)
        session.told.clear()
        session.events.clear()
        self.assertEqual(state_of(session), due)
        self.assertIsNot(session.told[0], session.told[0])


class TestPlaces(TestCase):

    def test_what_a_register_has_truly(self):
        session = Session(WIDE)
        self.assertEqual([session["a"], session["b"], session["c"]], [None, 2, 1])
        session += (None, 1)
        self.assertEqual(session.stand, (None, 1, None))
        self.assertEqual([session["a"], session["b"], session["c"]], [None, 1, None])
        session.undo()
        self.assertEqual(session["c"], 1)

    def test_no_places(self):
        for program, more in [(WIDE, []), (WRONG, ["b", "c"])]:
            session = Session(program)
            wrong = [thing for thing in all_but() if thing != "a" or not isinstance(thing, str)]
            for thing in wrong + [0, 1, 2, "A", "ab", "", b"a", ("a",), ["a"], Odd(), slice(0, 1)] + more:
                self.assert_refused(BadPlace, lambda: session[thing], about=thing)

    def test_sessions_are_not_iterated_over(self):
        with self.assertRaises(TypeError):
            list(Session(WRONG))


class TestUndo(TestCase):

    def test_all_rows(self):
        rows = [(1, None), (None, None), (0, 2)]
        session = gone_through(WIDE, *rows)
        for many in [2, 1, 0]:
            self.assertEqual(session.undo(), rows[many])
            self.assertEqual(state_of(session), state_due(WIDE, rows[:many]))
        self.assert_refused(NothingDone, session.undo, session.undo)
        session += (2, 2)
        self.assertEqual(state_of(session), state_due(WIDE, [(2, 2)]))

    def test_no_rows(self):
        self.assert_refused(NothingDone, Session(WRONG).undo)

    def test_within_a_trial(self):
        session = gone_through(WRONG, (1,))
        with session.trial():
            self.assert_refused(NothingDone, session.undo)
            session += (2,)
            self.assertEqual(session.undo(), (2,))
            self.assert_refused(NothingDone, session.undo)
            with session.trial():
                self.assert_refused(NothingDone, session.undo)
            session += (2,)
            with session.trial():
                self.assert_refused(NothingDone, session.undo)
            self.assertEqual(session.undo(), (2,))
            self.assert_refused(NothingDone, session.undo)
        self.assertEqual(session.undo(), (1,))
        self.assert_refused(NothingDone, session.undo)


class TestTrial(TestCase):

    def test_gives_the_session_itself(self):
        session = Session(WRONG)
        with session.trial() as inner:
            self.assertIs(inner, session)
            with inner.trial() as within:
                self.assertIs(within, session)

    def test_all_is_as_before(self):
        session = gone_through(WIDE, (1, None), (None, 2))
        due = state_of(session)
        with session.trial() as inner:
            inner += (2, 2)
            inner += (0, 0)
            self.assertEqual(state_of(session), state_due(WIDE, [(1, None), (None, 2), (2, 2), (0, 0)]))
            inner.undo()
        self.assertEqual(state_of(session), due)
        with session.trial():
            pass
        self.assertEqual(state_of(session), due)
        self.assertEqual([session.undo(), session.undo()], [(None, 2), (1, None)])

    def test_errors_are_passed_on(self):
        session = gone_through(WRONG, (1,))
        for kind in [Stop, BadRow, KeyError, KeyboardInterrupt]:
            with self.assertRaises(kind):
                with session.trial() as inner:
                    inner += (2,)
                    raise kind("!")
            self.assertEqual(state_of(session), state_due(WRONG, [(1,)]))
        with self.assertRaises(BadRow):
            with session.trial() as inner:
                inner += (2,)
                inner += (9,)
        self.assertEqual([session.rows, session.undo()], [((1,),), (1,)])

    def test_left_by_return_and_break(self):
        session = gone_through(WRONG, (1,))

        def leave():
            with session.trial() as inner:
                inner += (2,)
                return len(inner)
        self.assertEqual([leave(), session.rows], [2, ((1,),)])
        for _ in range(3):
            with session.trial() as inner:
                inner += (2,)
                break
        self.assertEqual(session.rows, ((1,),))

    def test_within_one_another(self):
        session = gone_through(WRONG, (1,))
        with session.trial():
            session += (2,)
            with self.assertRaises(Stop):
                with session.trial():
                    session += (0,)
                    with session.trial():
                        session += (None,)
                        self.assertEqual(session.rows, ((1,), (2,), (0,), (None,)))
                    self.assertEqual(state_of(session), state_due(WRONG, [(1,), (2,), (0,)]))
                    raise Stop()
            self.assertEqual(state_of(session), state_due(WRONG, [(1,), (2,)]))
        self.assertEqual(state_of(session), state_due(WRONG, [(1,)]))

    def test_one_trial_twice(self):
        session = gone_through(WRONG, (1,))
        trial = session.trial()
        session += (2,)
        with trial:
            session += (0,)
            with trial:
                session += (None,)
                self.assertEqual(len(session), 4)
            self.assertEqual(session.rows, ((1,), (2,), (0,)))
        self.assertEqual(session.rows, ((1,), (2,)))
        with trial:
            session += (0,)
        self.assertEqual(session.rows, ((1,), (2,)))

    def test_of_two_sessions(self):
        one, other = gone_through(WRONG, (1,)), gone_through(WIDE, (1, 1))
        with one.trial(), other.trial():
            one += (2,)
            other += (2, 2)
        self.assertEqual([one.rows, other.rows], [((1,),), ((1, 1),)])
        with one.trial():
            other += (2, 2)
            self.assertEqual(other.undo(), (2, 2))
            self.assertEqual(other.undo(), (1, 1))


class TestBranch(TestCase):

    def test_goes_its_own_way(self):
        session = gone_through(WIDE, (1, None), (None, 2))
        branch = session.branch()
        self.assertIsNot(branch, session)
        self.assertEqual(state_of(branch), state_of(session))
        branch += (0, 0)
        session.undo()
        session += (2, 2)
        self.assertEqual(state_of(branch), state_due(WIDE, [(1, None), (None, 2), (0, 0)]))
        self.assertEqual(state_of(session), state_due(WIDE, [(1, None), (2, 2)]))
        self.assertEqual([branch.undo(), branch.undo(), branch.undo()], [(0, 0), (None, 2), (1, None)])
        self.assert_refused(NothingDone, branch.undo)
        self.assertEqual(len(session), 2)

    def test_within_a_trial(self):
        session = gone_through(WRONG, (1,))
        with session.trial():
            session += (2,)
            with session.trial():
                branch = session.branch()
                self.assert_refused(NothingDone, session.undo)
                self.assertEqual([branch.undo(), branch.undo()], [(2,), (1,)])
                self.assert_refused(NothingDone, branch.undo)
                branch += (0,)
        self.assertEqual([session.rows, branch.rows], [((1,),), ((0,),)])
        with branch.trial():
            self.assert_refused(NothingDone, branch.undo)
            self.assertEqual(session.undo(), (1,))
        self.assertEqual([session.rows, branch.rows], [(), ((0,),)])

    def test_trials_of_a_branch(self):
        session = gone_through(WRONG, (1,))
        branch = session.branch()
        with branch.trial():
            branch += (2,)
            session += (0,)
        self.assertEqual([session.rows, branch.rows], [((1,), (0,)), ((1,),)])

    def test_of_each_length(self):
        for many in [0, 1, 300]:
            branch = gone_through(WRONG, *[(1,)] * many).branch()
            self.assertEqual([len(branch), branch.program], [many, WRONG])


class TestAttempt(TestCase):

    def test_returns(self):
        session = gone_through(WRONG, (1,))
        self.assertEqual([session.attempt(len), session.attempt(lambda inner: inner is session)], [1, True])
        self.assertIsNone(session.attempt(lambda inner: None))

        def work(inner):
            inner += (2,)
            inner += (None,)
            return inner.told
        self.assertEqual(session.attempt(work), [[2], [2], [2]])
        self.assertEqual(state_of(session), state_due(WRONG, [(1,)]))

    def test_raises(self):
        session = gone_through(WRONG, (1,))

        def work(inner):
            inner += (2,)
            raise Stop()
        with self.assertRaises(Stop):
            session.attempt(work)
        self.assertEqual(state_of(session), state_due(WRONG, [(1,)]))

    def test_undoes(self):
        session = gone_through(WRONG, (1,))
        self.assert_refused(NothingDone, lambda: session.attempt(lambda inner: inner.undo()))

        def work(inner):
            inner += (2,)
            return inner.undo(), inner.rows
        self.assertEqual(session.attempt(work), ((2,), ((1,),)))
        self.assertEqual(session.rows, ((1,),))

    def test_further_trials(self):
        session = gone_through(WRONG, (1,))

        def work(inner):
            inner += (2,)
            within = inner.attempt(lambda deeper: deeper.attempt(deepest))
            with inner.trial():
                inner += (0,)
            return within, inner.rows

        def deepest(inner):
            inner += (0,)
            return inner.rows
        self.assertEqual(session.attempt(work), (((1,), (2,), (0,)), ((1,), (2,))))
        self.assertEqual(session.rows, ((1,),))

    def test_a_branch_stays(self):
        session = gone_through(WRONG, (1,))

        def work(inner):
            inner += (2,)
            return inner.branch()
        branch = session.attempt(work)
        self.assertEqual([branch.rows, branch.undo(), branch.undo()], [((1,), (2,)), (2,), (1,)])


class TestTried(TestCase):

    def test_as_the_document_says(self):
        for chance in oracle.chances(80):
            program = oracle.random_program(chance)
            rows = [chance.choice(oracle.all_rows(program)) for _ in range(8)]
            many = chance.randint(0, 8)
            session = gone_through(program, *rows[:many])
            self.assertEqual(session.tried(rows[many:]), state_due(program, rows)[4][many:])
            self.assertEqual(state_of(session), state_due(program, rows[:many]))

    def test_no_rows(self):
        self.assertEqual(gone_through(WRONG, (1,)).tried([]), [])

    def test_no_lists_of_rows(self):
        session = gone_through(WRONG, (1,))
        due = state_of(session)
        for thing in all_but(list) + [[1], [None], ((1,),), [(1,), (9,), (1,)], [(1,), (1, 1)], [(1,), [1]], [(True,)],
                                      Data.of((1,)), [(1,), None], [[(1,)]], {(1,): 1}]:
            self.assert_refused(BadData, lambda: session.tried(thing), about=thing)
            self.assertEqual(state_of(session), due)
        self.assertEqual(session.undo(), (1,))

    def test_too_many(self):
        session = gone_through(WRONG, *[(1,)] * 298)
        due = state_of(session)
        self.assertEqual(session.tried([(1,), (1,)]), [[2], [2]])
        self.assert_refused(BadData, lambda: session.tried([(1,)] * 3), lambda: session.tried([(1,)] * 300))
        self.assertEqual(state_of(session), due)
        self.assertEqual(len(Session(WRONG).tried([(1,)] * 300)), 300)
        self.assert_refused(BadData, lambda: Session(WRONG).tried([(1,)] * 301))

    def test_within_a_trial(self):
        session = gone_through(WRONG, (1,))
        with session.trial():
            session += (2,)
            self.assertEqual(session.tried([(None,)]), [[2]])
            self.assertEqual(session.undo(), (2,))
        self.assertEqual(session.rows, ((1,),))

    def test_lists_are_new_and_none_is_kept(self):
        session, rows = Session(WRONG), [(1,), (None,)]
        found = session.tried(rows)
        found[0].clear()
        found.clear()
        self.assertEqual([rows, session.tried(rows), session.rows], [[(1,), (None,)], [[2], [2]], ()])


class TestWrongArguments(TestCase):

    def test_programs(self):
        self.assert_no_programs(Session)
        self.assertEqual(self.assert_refused(BadProgram, lambda: Session(None)).part, None)

    def test_nothing_changes(self):
        program, twin = [Program(2, WIDE.marks, WIDE.begin, WIDE.steps) for _ in range(2)]
        session = gone_through(program, (1, 1), (None, None))
        session.tried([(1, 1)]), session.attempt(len), session.branch().undo()
        self.assertEqual([program, first_contents(program)], [twin, (1, 2, 1)])


if __name__ == "__main__":
    unittest.main()
