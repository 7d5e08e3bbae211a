"""Tests over the whole program: what the document says of all of it."""

import doctest
import importlib
import inspect
import itertools
import os
import re
import unittest

from lackmark import errors
from lackmark.alike import Alike, Parted, compare
from lackmark.chains import Chain, Clean, Spoiled, watch
from lackmark.data import Data
from lackmark.leaving import Leanest, leanest
from lackmark.marks import Marks
from lackmark.mending import Hopeless, Mended, mend
from lackmark.programs import Program
from lackmark.sessions import Session
from lackmark.spoiling import Never, Once, happen
from lackmark.telling import Told, Untold, tell
from tests.cases import TOTAL, WRONG

HERE = os.path.dirname(os.path.dirname(os.path.abspath(__file__)))
DOCUMENT = os.path.join(os.path.dirname(HERE), "shared", "DOC.md")

# What the interface lists: for each file, its functions and classes, with their parameters.
INTERFACE = {
    "data": {"Data": ["rows", "width"], "rows_for": ["width", "top"]},
    "marks": {"Marks": ["columns", "registers"]},
    "programs": {"Program": ["top", "marks", "begin", "steps"]},
    "runs": {"first_stand": ["program"], "first_contents": ["program"], "true_after": ["program", "stand", "row"],
             "plain_after": ["program", "contents", "row"], "written": ["program", "stand"],
             "taken": ["program", "contents"], "walk": ["program", "data"]},
    "spoiling": {"happen": ["program", "event"], "soonest": ["program", "event"], "events_of": ["program"],
                 "stands_of": ["program"], "Never": ["stands"], "Once": ["data", "floors"]},
    "alike": {"compare": ["one", "other"], "are_alike": ["one", "other"], "parting_rows": ["one", "other"],
              "is_honest": ["program"], "Alike": ["pairs"], "Parted": ["data"]},
    "mending": {"after": ["program", "offers", "choice"], "mend": ["program", "offers"],
                "least_price": ["program", "offers"], "Mended": ["choice", "never", "doubts"], "Hopeless": ["doubts"]},
    "chains": {"Chain": ["writer", "reader"], "chain_after": ["chain", "stands", "row"], "watch": ["chain"],
               "spoiled_after": ["chain"], "Clean": ["pairs"], "Spoiled": ["data"]},
    "telling": {"tell": ["program", "wish"], "soonest_told": ["program", "wish"], "Told": ["data", "floors"],
                "Untold": ["contents"]},
    "leaving": {"without": ["program", "choice"], "leanest": ["program", "choice"], "most_left": ["program", "choice"],
                "Leanest": ["left", "alike", "doubts"]},
    "sessions": {"Session": ["program"]},
    "texts": {"data_text": ["data", "marks"], "read_data": ["text", "marks"], "program_text": ["program"],
              "read_program": ["text"]},
}

OFFERS = ("own", 0, 2), ("own", "a", 2), ("test", 0, 1)
CHAIN, CLEAN = Chain(WRONG, TOTAL), Chain(~WRONG, ~TOTAL)

# All kinds of evidence, made anew by each of these, with what it shows something of.
EVIDENCE = {Once: (lambda: happen(WRONG), (WRONG,)), Never: (lambda: happen(~WRONG), (~WRONG,)),
            Alike: (lambda: compare(WRONG, TOTAL), (WRONG, TOTAL)),
            Parted: (lambda: compare(WRONG, ~WRONG), (WRONG, ~WRONG)),
            Mended: (lambda: mend(WRONG, OFFERS), (WRONG, OFFERS)),
            Hopeless: (lambda: mend(WRONG, OFFERS[:1]), (WRONG, OFFERS[:1])),
            Clean: (lambda: watch(CLEAN), (CLEAN,)), Spoiled: (lambda: watch(CHAIN), (CHAIN,)),
            Told: (lambda: tell(WRONG, (2,)), (WRONG, (2,))), Untold: (lambda: tell(WRONG, ()), (WRONG, ())),
            Leanest: (lambda: leanest(TOTAL, (0, 1)), (TOTAL, (0, 1)))}


def parts_of(thing):
    """Return a thing, and all lists, dicts and objects of the package in it, but for those that never change."""
    if isinstance(thing, (list, tuple)):
        return ([thing] if isinstance(thing, list) else []) + [part for one in thing for part in parts_of(one)]
    if isinstance(thing, dict):
        return [thing] + [part for one in thing.values() for part in parts_of(one)]
    if type(thing) in EVIDENCE:
        return [thing] + [part for one in vars(thing).values() for part in parts_of(one)]
    return []


class TestInterface(unittest.TestCase):

    def test_names_and_parameters(self):
        for file, names in INTERFACE.items():
            module = importlib.import_module(f"lackmark.{file}")
            for name, parameters in names.items():
                thing = getattr(module, name)
                self.assertEqual(thing.__module__, f"lackmark.{file}")
                self.assertEqual(list(inspect.signature(thing).parameters), parameters, name)

    def test_errors(self):
        names = """BadData BadRow BadNumber BadMarks BadPlace BadProgram BadStand BadEvent TooLarge Unequal BadOffers
            BadChoice BadChain BadWish NothingDone BadText""".split()
        for name in names:
            self.assertEqual(getattr(errors, name).__bases__, (errors.LackError,))
        self.assertEqual(errors.LackError.__bases__, (ValueError,))

    @unittest.skipUnless(os.path.exists(DOCUMENT), "the document is not here")
    def test_examples_of_the_document(self):
        with open(DOCUMENT, encoding="utf-8") as file:
            blocks = re.findall(r"^```\n(.*?)^```", file.read(), re.S | re.M)
        self.assertGreater(len(blocks), 10)
        for at, block in enumerate(blocks):
            told = []
            examples = doctest.DocTestParser().get_doctest(block, {}, f"DOC.md, example {at}", DOCUMENT, 0)
            doctest.DocTestRunner(verbose=False).run(examples, out=told.append)
            self.assertEqual("".join(told), "")


class TestEvidence(unittest.TestCase):

    def test_each_kind_is_found_and_shown(self):
        for kind, (make, about) in EVIDENCE.items():
            found = make()
            self.assertIs(type(found), kind)
            self.assertIs(found.shows(*about), True, kind)

    def test_equal_just_to_its_own_kind(self):
        for one, other in itertools.product(EVIDENCE, repeat=2):
            same = EVIDENCE[one][0]() == EVIDENCE[other][0]()
            self.assertIs(same, one is other, (one, other))
            self.assertIs(EVIDENCE[one][0]() != EVIDENCE[other][0](), not same)

    def test_equal_parts_in_other_kinds(self):
        data, pairs, stands = Data.of((1,)), [((1,), (1,))], [(1,)]
        kinds = [Alike(pairs), Clean(pairs), Never(pairs), Untold(pairs), Never(stands), Untold(stands), Parted(data),
                 Spoiled(data), Once(data, {(1,): 1}), Told(data, {(1,): 1}), Hopeless({(): data}),
                 Mended((), Never([]), {(): data}), Leanest((), Alike([]), {}), Data([]), Data([], width=2),
                 Marks((0,), (0,)), Marks((0, 0), (0,)), WRONG, TOTAL, CHAIN]
        for at, other in itertools.product(range(len(kinds)), repeat=2):
            self.assertIs(kinds[at] == kinds[other], at == other, (kinds[at], kinds[other]))

    def test_all_is_new(self):
        for kind, (make, _) in EVIDENCE.items():
            one, other = parts_of(make()), parts_of(make())
            self.assertEqual(len({id(part) for part in one + other}), len(one) + len(other), kind)
            self.assertGreater(len(one), 0)

    def test_attributes_can_be_changed(self):
        for make, about in EVIDENCE.values():
            for name in vars(make()):
                found, kept = make(), make()
                setattr(found, name, getattr(kept, name))
                self.assertIs(found.shows(*about), True)

    def test_shows_changes_nothing(self):
        for make, about in EVIDENCE.values():
            found = make()
            before = [(id(part), repr(part)) for part in parts_of(found)]
            found.shows(*about)
            self.assertEqual([(id(part), repr(part)) for part in parts_of(found)], before)
            self.assertEqual(found, make())

    def test_no_empty_evidence_shows_anything(self):
        nothing = Data([])
        for found in [Never([]), Once(nothing, {}), Alike([]), Parted(nothing), Mended((), Never([]), {}), Hopeless({}),
                      Clean([]), Spoiled(nothing), Told(nothing, {}), Untold([]), Leanest((), Alike([]), {})]:
            self.assertIs(found.shows(*EVIDENCE[type(found)][1]), False)


class TestNothingIsKept(unittest.TestCase):

    def test_lists_that_are_handed_in(self):
        rows = [(1,), (None,)]
        data = Data(rows)
        session = Session(WRONG)
        session.tried(rows)
        rows.clear()
        self.assertEqual([data.rows, session.rows], [((1,), (None,)), ()])

    def test_programs_keep_nothing_from_one_call_for_the_next(self):
        program = Program.of(*WRONG.steps, begin=(1,))
        before = repr(sorted(vars(program).items()))
        happen(program), compare(program, ~program), mend(program, OFFERS), tell(program, ()), program(Data.of((1,)))
        watch(Chain(program, program)), leanest(program, (0,))
        self.assertEqual(repr(sorted(vars(program).items())), before)


if __name__ == "__main__":
    unittest.main()
