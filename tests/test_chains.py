"""Tests of lackmark.chains."""

import itertools
import unittest

from lackmark import chains
from lackmark.alike import Alike, Parted
from lackmark.chains import Chain, Clean, Spoiled, chain_after, spoiled_after, watch
from lackmark.data import Data
from lackmark.errors import BadChain, BadData, BadProgram, BadRow, BadStand, TooLarge, Unequal
from lackmark.marks import Marks
from lackmark.programs import Program
from lackmark.runs import true_after
from tests import accounts, oracle
from tests.cases import TOTAL, TWELVE, TWELVE_AND_ONE, TWENTY_FIVE, TestCase, WRONG
from tests.things import all_but

WRITER, READER = Program.of(("tell", 0)), Program.of(("tell", 0), marks=Marks((1,), (0,)))
CHAIN = Chain(WRITER, READER)
NO_CHAINS = all_but() + [Chain, WRITER, (WRITER, READER), [WRITER, READER], Clean([]), Spoiled(Data([])), Data([])]

# Tells as many things as its column has as a number: none, one, two or three of them.
SOME = Program.of(("lack", 0, 3), ("tell", 0), ("over", "a", 0, 1), ("tell", "a"), marks=Marks((None,), (None,)),
                  begin=(1,))


def random_chain(chance):
    writer = oracle.random_program(chance, registers=chance.choice([1, 1, 2]))
    return Chain(writer, oracle.random_program(chance, top=writer.top, registers=chance.choice([1, 1, 2])))


def first_stands(chain):
    return chain.writer.begin, chain.reader.begin


def move_of(chain):
    return accounts.chain_move(chain.writer, chain.reader)


def telling(*places, marks, top=4, begin=None):
    """Return a program that tells some places."""
    begin = begin or (None,) * len(marks.registers)
    return Program(top, marks, begin, tuple(("tell", place) for place in places))


class TestExamples(TestCase):

    def test_document(self):
        writer, reader = Program.of(('tell', 0)), Program.of(('tell', 0), marks=Marks((1,), (0,)))
        chain, data = Chain(writer, reader), Data.of((None,), (2,), (1,))
        first = [chain.file(data), chain(data), Chain(~writer, reader)(data), Chain(~writer, reader).file(data),
                 chain_after(chain, ((None,), (None,)), (None,))]
        self.assertEqual([first, spoiled_after(chain), spoiled_after(Chain(~writer, reader)),
                          spoiled_after(Chain(~writer, ~reader)), Spoiled(Data.of((2,), (None,))).shows(chain),
                          Spoiled(data).shows(chain)],
                         [[[(0,), (2,), (1,)], [[0], [2], [None]], [[None], [2], [None]], [(None,), (2,), (1,)],
                           (((None,), (None,)), [None], [('file', (0, 'strayed', 0))])], 1, 1, None, True, False])


class TestInterface(TestCase):

    def test_defined_here(self):
        for name in ["Chain", "chain_after", "watch", "spoiled_after", "Clean", "Spoiled"]:
            self.assertEqual(getattr(chains, name).__module__, "lackmark.chains")
        self.assert_methods(Chain, "__init__", "writer", "reader", "__call__", "file", "__eq__")
        for kind in [Clean, Spoiled]:
            self.assert_methods(kind, "__init__", "shows", "__eq__")

    def test_attributes_are_of_the_objects(self):
        self.assertEqual(vars(Clean([((1,), (1,))])), {"pairs": [((1,), (1,))]})
        self.assertEqual(vars(Spoiled(Data([]))), {"data": Data([])})

    def test_properties(self):
        self.assertIs(type(vars(Chain)["writer"]), property)
        self.assertIs(type(vars(Chain)["reader"]), property)
        self.assertEqual([CHAIN.writer, CHAIN.reader], [WRITER, READER])
        for name in ["writer", "reader"]:
            with self.assertRaises(AttributeError):
                setattr(CHAIN, name, WRITER)

    def test_names_of_parameters(self):
        self.assertEqual(Chain(writer=WRITER, reader=READER), CHAIN)
        data = Data.of((1,))
        self.assertEqual([CHAIN(data=data), CHAIN.file(data=data)], [[[None]], [(1,)]])
        self.assertEqual(chain_after(chain=CHAIN, stands=((1,), (1,)), row=(2,)), (((1,), (1,)), [2], []))
        self.assertEqual([watch(chain=CHAIN).shows(chain=CHAIN), spoiled_after(chain=CHAIN)], [True, 1])
        self.assertIs(Clean(pairs=[]).shows(chain=CHAIN), False)
        self.assertIs(Spoiled(data=data).shows(chain=CHAIN), True)


class TestFiles(TestCase):

    def test_numbers_and_empty_fields(self):
        marks = Marks((0, None), (3, None))
        chain = Chain(telling(0, 1, marks=marks), telling(0, 1, marks=Marks((2, 1), (0,))))
        data = Data.of((1, 2), (None, None), (0, 3), (2, 1), (4, 4))
        self.assertEqual(chain.file(data), [(1, 2), (0, None), (0, 3), (2, 1), (4, 4)])
        self.assertEqual(chain(data), [[1, 2], [0, None], [0, 3], [None, None], [4, 4]])
        chain = Chain(telling("a", "b", marks=marks, begin=(None, None)), telling(0, 1, marks=Marks((2, 1), (0,))))
        self.assertEqual([chain.file(Data.of((1, 1))), chain(Data.of((1, 1)))], [[(3, None)], [[3, None]]])

    def test_as_many_things_as_columns(self):
        data = Data.of((None,), (0,), (1,), (2,))
        one, two = [telling(*range(width), marks=Marks((None,) * width, (0,)), top=2) for width in (1, 2)]
        self.assertEqual([SOME(data), Chain(SOME, one).file(data), Chain(SOME, two).file(data)],
                         [[[], [0], [1, 1], [2, 1]], [(0,)], [(1, 1), (2, 1)]])
        self.assertEqual([Chain(SOME, one)(data), Chain(SOME, two)(data)], [[[0]], [[1, 1], [2, 1]]])
        for many in range(4):
            writer = Program.of(("set", "a", 1), *[("tell", "a")] * many)
            for width, reader in [(1, one), (2, two)]:
                self.assertEqual(Chain(writer, reader).file(data), [(1,) * width] * 4 if many == width else [])
                self.assertEqual(len(Chain(writer, reader)(data)), 4 if many == width else 0)

    def test_one_place_told_twice(self):
        for place in [0, "a"]:
            writer = Program.of(("copy", "a", 0), ("tell", place), ("tell", place), marks=Marks((2,), (2,)))
            reader = Program.of(("tell", 1), ("tell", 0), marks=Marks((2, 0), (0,)))
            self.assertEqual(Chain(writer, reader).file(Data.of((1,), (None,))), [(1, 1), (2, 2)])
            self.assertEqual(Chain(writer, reader)(Data.of((1,), (None,))), [[1, 1], [2, None]])

    def test_what_stands_there(self):
        # A mark that has strayed, and one that is met, stand there just like numbers.
        writer = Program.of(("copy", "a", 0), ("tell", "a"), marks=Marks((0,), (1,)))
        self.assertEqual(Chain(writer, READER).file(Data.of((None,), (1,), (0,))), [(0,), (1,), (0,)])
        writer = Program.of(("copy", "a", 0), ("tell", "a"), marks=Marks((None,), (1,)))
        self.assertEqual(Chain(writer, READER).file(Data.of((None,), (1,), (0,))), [(None,), (1,), (0,)])

    def test_own_objects_are_written_as_the_mark_of_the_column(self):
        writer = telling(0, marks=Marks((None,), (0,)))
        reader = Program.of(("plus", "a", 0), ("tell", "a"), top=4, marks=Marks((3,), (0,)), begin=(1,))
        self.assertEqual(Chain(writer, reader)(Data.of((None,), (1,))), [[4], [4]])
        self.assertEqual(Chain(writer, ~reader)(Data.of((None,), (1,))), [[None], [None]])

    def test_without_rows_and_with_300(self):
        for writer, width in [(WRITER, 1), (telling(0, marks=Marks((0, 0), (0,)), top=2), 2)]:
            chain = Chain(writer, READER)
            self.assertEqual([chain.file(Data([], width=width)), chain(Data([], width=width))], [[], []])
        self.assertEqual([len(CHAIN.file(Data([(1,)] * 300))), len(CHAIN(Data([(1,)] * 300)))], [300, 300])

    def test_readers_keep_what_they_have(self):
        reader = Program.of(("plus", "a", 0), ("tell", "a"), top=2, marks=Marks((None,), (None,)), begin=(0,))
        self.assertEqual(Chain(SOME, reader)(Data.of((0,), (1,), (None,), (0,))), [[0], [0]])
        chain = Chain(Program.of(("tell", 0), marks=Marks((None,), (None,))), reader)
        self.assertEqual(chain(Data.of((1,), (0,), (1,))), [[1], [1], [2]])

    def test_as_the_document_says(self):
        for chance in oracle.chances(250):
            chain = random_chain(chance)
            rows = [chance.choice(oracle.all_rows(chain.writer)) for _ in range(chance.randint(0, 9))]
            data = Data(rows, width=len(chain.writer.marks.columns))
            file, marks = accounts.file_by(chain.writer, chain.reader, rows), chain.reader.marks.columns
            self.assertEqual(chain.file(data), file)
            read = [tuple(None if worth in (None, mark) else worth for worth, mark in zip(row, marks)) for row in file]
            self.assertEqual(chain(data), accounts.told_by(chain.reader, read))

    def test_lists_are_new(self):
        data = Data.of((1,), (2,))
        CHAIN.file(data).clear()
        found = CHAIN(data)
        found[0].clear()
        found.clear()
        self.assertEqual([CHAIN.file(data), CHAIN(data)], [[(1,), (2,)], [[None], [2]]])

    def test_wrong_data(self):
        for thing in all_but() + [Data([], width=2), Data.of((1, 1)), Data.of((3,)), [(1,)], Data.of((1,), (9,))]:
            self.assert_refused(BadData, lambda: CHAIN(thing), lambda: CHAIN.file(thing), about=thing)


class TestChainAfter(TestCase):

    def test_as_the_document_says(self):
        kinds = set()
        for chance in oracle.chances(400):
            chain = random_chain(chance)
            for _ in range(8):
                stands = (oracle.random_worths(chance, chain.writer.top, len(chain.writer.begin)),
                          oracle.random_worths(chance, chain.writer.top, len(chain.reader.begin)))
                row = chance.choice(oracle.all_rows(chain.writer))
                found = chain_after(chain, stands, row)
                kinds |= {(word, event[1]) for word, event in found[2]} | {found[1] is None}
                due = accounts.chain_run(chain.writer, chain.reader, stands, row)
                self.assertEqual(found, due, (chain.writer.steps, chain.reader.steps, stands, row))
        words = ["met", "reckoned", "strayed"]
        self.assertEqual(kinds, {False, True, ("file", "strayed"), *itertools.product(["writer", "reader"], words)})

    def test_order_of_events(self):
        writer = Program(2, Marks((0, None), (1,)), (None,), (("tell", 0), ("plus", "a", 0), ("tell", "a")))
        reader = Program(2, Marks((1, 0), (0,)), (None,), (("plus", "a", 1), ("tell", 0)))
        self.assertEqual(chain_after(Chain(writer, reader), ((2,), (2,)), (None, 1)),
                         (((None,), (None,)), [None],
                          [("writer", (1, "reckoned", 0)), ("file", (0, "strayed", 0)), ("file", (2, "strayed", "a")),
                           ("reader", (0, "reckoned", 1))]))
        self.assertEqual(chain_after(Chain(writer, reader), ((2,), (0,)), (0, 1)),
                         (((2,), (2,)), [0],
                          [("writer", (0, "met", 0)), ("writer", (1, "met", 0)), ]))

    def test_no_row_for_the_reader(self):
        for writer in [Program.of(("plus", "a", 0)), Program.of(("plus", "a", 0), ("tell", 0), ("tell", 0))]:
            events = [("writer", event) for event in true_after(writer, (1,), (None,))[2]]
            self.assertEqual(chain_after(Chain(writer, READER), ((1,), (2,)), (None,)), (((None,), (2,)), None, events))
        self.assertEqual(chain_after(Chain(SOME, READER), ((1,), (2,)), (None,)), (((1,), (2,)), None, []))

    def test_readers_that_tell_nothing(self):
        reader = Program.of(("set", "a", 1), marks=Marks((0,), (0,)))
        self.assertEqual(chain_after(Chain(WRITER, reader), ((1,), (2,)), (2,)), (((1,), (1,)), [], []))

    def test_strayed_at_the_file(self):
        for mark, column in itertools.product([None, 0, 1, 2], repeat=2):
            chain = Chain(telling(0, marks=Marks((mark,), (0,))), telling(0, marks=Marks((column,), (0,))))
            due = [("file", (0, "strayed", 0))] if mark is not None and mark != column else []
            self.assertEqual(chain_after(chain, ((None,), (None,)), (None,))[1:], ([None], due), (mark, column))
            chain = Chain(telling("a", marks=Marks((3,), (mark,))), telling(0, marks=Marks((column,), (0,))))
            due = [("file", (0, "strayed", "a"))] if due else []
            self.assertEqual(chain_after(chain, ((None,), (None,)), (1,))[1:], ([None], due), (mark, column))

    def test_one_place_told_twice(self):
        writer = telling(0, 0, marks=Marks((2,), (0,)))
        for columns, steps in [((0, 1), [0, 1]), ((2, 1), [1]), ((0, 2), [0]), ((None, 2), [0]), ((2, 2), [])]:
            chain = Chain(writer, telling(0, marks=Marks(columns, (0,))))
            self.assertEqual(chain_after(chain, ((None,), (None,)), (None,))[2],
                             [("file", (step, "strayed", 0)) for step in steps])

    def test_true_numbers_that_are_marks(self):
        # What is told has its mark as a true number: nothing strays, and the reader meets its own marks only.
        chain = Chain(telling("a", marks=Marks((3,), (2,))), telling(0, marks=Marks((1,), (0,))))
        self.assertEqual(chain_after(chain, ((2,), (None,)), (0,)), (((2,), (None,)), [2], []))
        self.assertEqual(chain_after(chain, ((1,), (None,)), (0,)), (((1,), (None,)), [1], [("reader", (0, "met", 0))]))
        chain = Chain(telling(0, marks=Marks((1,), (2,))), telling(0, marks=Marks((1,), (0,))))
        self.assertEqual(chain_after(chain, ((1,), (None,)), (1,)),
                         (((1,), (None,)), [1], [("writer", (0, "met", 0)), ("reader", (0, "met", 0))]))

    def test_without_events_the_reader_tells_truly(self):
        seen = 0
        for chance in oracle.chances(400):
            chain, rows, due = random_chain(chance), [], []
            chain = Chain(~chain.writer, ~chain.reader) if chance.random() < 0.5 else chain
            stands = first_stands(chain)
            for _ in range(6):
                row = chance.choice(oracle.all_rows(chain.writer))
                stands, told, events = chain_after(chain, stands, row)
                if events:
                    break
                rows.append(row)
                due = due + ([told] if told is not None else [])
            seen += len(due)
            self.assertEqual(chain(Data(rows, width=len(chain.writer.marks.columns))), due)
        self.assertGreater(seen, 100)

    def test_lists_are_new(self):
        _, told, events = chain_after(CHAIN, ((None,), (None,)), (None,))
        told.clear()
        events.clear()
        self.assertEqual(chain_after(CHAIN, ((None,), (None,)), (None,))[1:], ([None], [("file", (0, "strayed", 0))]))

    def test_wrong_arguments(self):
        for thing in NO_CHAINS:
            self.assert_refused(BadChain, lambda: chain_after(thing, None, None), about=thing)
        for thing in all_but() + [((1,),), ((1,), (1,), (1,)), [(1,), (1,)], ((1,), [1]), ((3,), (1,)), ((1,), (3,)),
                                  ((True,), (1,)), ((1,), (False,)), ((1, 1), (1,)), ((1,), (1, 1)), ((), ()),
                                  ((1,), None), (1, 1), {(1,): (1,)}, ((-1,), (1,))]:
            self.assert_refused(BadStand, lambda: chain_after(CHAIN, thing, (1,)),
                                lambda: chain_after(CHAIN, thing, (9,)), about=thing)
        for thing in all_but() + [(1, 1), (3,), [1], (False,), Data.of((1,))]:
            if repr(thing) not in ("(1,)", "(None,)"):
                self.assert_refused(BadRow, lambda: chain_after(CHAIN, ((1,), (1,)), thing), about=thing)
        wide = Chain(telling(0, 1, marks=Marks((0, 0), (0,)), top=2), telling(0, marks=Marks((0,), (0, 0)), top=2))
        self.assert_refused(BadRow, lambda: chain_after(wide, ((1,), (1, 1)), (1,)))
        self.assert_refused(BadStand, lambda: chain_after(wide, ((1, 1), (1,)), (1, 1)))
        self.assertEqual(chain_after(wide, ((1,), (1, 1)), (1, 1)), (((1,), (1, 1)), None, []))


class TestWatch(TestCase):

    def test_as_the_document_says(self):
        kinds = set()
        for chance in oracle.chances(220):
            chain = random_chain(chance)
            if chance.random() < 0.5:
                chain = Chain(~chain.writer, chain.reader)
            first, rows, move = first_stands(chain), oracle.all_rows(chain.writer), move_of(chain)
            if len(accounts.fewest_rows_by(first, rows, move)) > 300:
                self.assert_refused(TooLarge, lambda: watch(chain))
                continue
            fewest, found = accounts.fewest_by(first, rows, move), watch(chain)
            kinds.add((type(found), fewest))
            self.assertEqual(spoiled_after(chain), fewest)
            if fewest is None:
                self.assertIs(type(found), Clean)
                self.assertTrue(accounts.never_by(found.pairs, first, rows, move))
            else:
                self.assertIs(type(found), Spoiled)
                self.assertTrue(accounts.only_last_by(first, found.data.rows, move))
            self.assertIs(found.shows(chain), True)
        self.assertGreaterEqual(kinds, {(Clean, None), (Spoiled, 1), (Spoiled, 2)})

    def test_each_part_of_a_chain(self):
        plain = telling(0, marks=Marks((None,), (None,)))
        met = telling(0, marks=Marks((1,), (None,)))
        self.assertIsNone(spoiled_after(Chain(plain, plain)))
        self.assertEqual(watch(Chain(met, plain)).data, Data.of((None,)))
        self.assertEqual(watch(Chain(met, met)).data, Data.of((1,)))
        self.assertEqual(watch(Chain(plain, met)).data, Data.of((1,)))

    def test_as_few_rows_as_possible(self):
        for many in [1, 2, 3, 4]:
            steps = ("find", "a", "a", (1, 2, 3, 4, 4)), ("tell", "a")
            writer = Program(4, Marks((None,), (None,)), (4 - many,), steps)
            chain = Chain(writer, telling(0, marks=Marks((4,), (0,))))
            self.assertEqual([spoiled_after(chain), len(watch(chain).data)], [many, many])

    def test_rows_without_a_row_of_the_file(self):
        chain = Chain(Program.of(("lack", 0, 1), ("tell", 0), marks=Marks((None,), (0,))), ~READER)
        self.assertEqual([spoiled_after(chain), watch(chain).pairs], [None, [((None,), (None,))]])
        chain = Chain(Program.of(("plus", "a", 0)), READER)
        self.assertEqual(spoiled_after(chain), 1)

    def test_returned_objects_are_new(self):
        chain = Chain(~WRITER, ~READER)
        watch(chain).pairs.clear()
        self.assertIs(watch(chain).shows(chain), True)
        watch(CHAIN).data = None
        self.assertIs(watch(CHAIN).shows(CHAIN), True)

    def test_wrong_arguments(self):
        for thing in NO_CHAINS:
            self.assert_refused(BadChain, lambda: watch(thing), lambda: spoiled_after(thing),
                                lambda: Clean([]).shows(thing), lambda: Spoiled(Data([])).shows(thing), about=thing)


class TestTooLarge(TestCase):

    def test_just_300_pairs(self):
        chain = Chain(TWENTY_FIVE, TWELVE)
        found = watch(chain)
        self.assertEqual([type(found), len(found.pairs), len(set(found.pairs))], [Clean, 300, 300])
        self.assertIs(found.shows(chain), True)
        self.assertIsNone(spoiled_after(chain))

    def test_more(self):
        for chain in [Chain(TWENTY_FIVE, TWELVE_AND_ONE), Chain(TWELVE_AND_ONE, TWENTY_FIVE)]:
            self.assert_refused(TooLarge, lambda: watch(chain), lambda: spoiled_after(chain))

    def test_whatever_happens_before(self):
        marks = Marks((0,), (None,) * 3)
        self.assertEqual(spoiled_after(Chain(TWENTY_FIVE, TWELVE % marks)), 1)
        chain = Chain(TWENTY_FIVE % marks, TWELVE_AND_ONE % marks)
        self.assert_refused(TooLarge, lambda: watch(chain), lambda: spoiled_after(chain))
        self.assertIs(Spoiled(Data.of((0,))).shows(chain), True)
        self.assertIs(Clean([(chain.writer.begin, chain.reader.begin)]).shows(chain), False)


class TestShows(TestCase):

    def test_each_list_of_pairs(self):
        outcomes = set()
        for chance in oracle.chances(120):
            writer = oracle.random_program(chance, top=1, columns=1, registers=1, many=3)
            reader = oracle.random_program(chance, top=1, columns=1, registers=1, many=2)
            chain = Chain(~writer, ~reader if chance.random() < 0.7 else reader)
            every = list(itertools.product(oracle.all_stands(writer), oracle.all_stands(reader)))
            for _ in range(12):
                some = chance.sample(every, chance.randint(0, 9)) + [first_stands(chain)] * chance.randint(0, 2)
                due = accounts.never_by(some, first_stands(chain), oracle.all_rows(writer), move_of(chain))
                outcomes.add(due)
                self.assertIs(Clean(some).shows(chain), due)
        self.assertEqual(outcomes, {False, True})

    def test_one_left_out(self):
        chain = Chain(TWENTY_FIVE, TWELVE)
        pairs = watch(chain).pairs
        for at in range(0, 300, 23):
            self.assertIs(Clean(pairs[:at] + pairs[at + 1:]).shows(chain), False)
        self.assertIs(Clean(pairs[::-1] + pairs[:1]).shows(chain), True)

    def test_no_pairs_of_stands(self):
        chain = Chain(~WRITER, ~READER)
        right = [((None,), (None,))]
        self.assertIs(Clean(right).shows(chain), True)
        for wrong in [((3,), (1,)), ((1,), (3,)), ((1,),), ((1,), (1,), (1,)), (), ((True,), (1,)), ((1,), (True,)),
                      ((1, 1), (1,)), ((1,), (1, 1)), (1, 1), ((1,), None), "ab"]:
            for pairs in [right + [wrong], [wrong] + right, [wrong]]:
                self.assertIs(Clean(pairs).shows(chain), False, wrong)
        self.assertIs(Clean(right + [((1,), (2,))]).shows(chain), True)
        self.assertIs(Clean([]).shows(chain), False)

    def test_data(self):
        outcomes = set()
        for chance in oracle.chances(200):
            chain = random_chain(chance)
            for _ in range(6):
                some = [chance.choice(oracle.all_rows(chain.writer)) for _ in range(chance.randint(0, 3))]
                due = accounts.only_last_by(first_stands(chain), some, move_of(chain))
                outcomes.add((due, len(some)))
                self.assertIs(Spoiled(Data(some, width=len(chain.writer.marks.columns))).shows(chain), due)
        self.assertGreaterEqual(outcomes, {(True, 1), (True, 2), (False, 0), (False, 1), (False, 2)})

    def test_data_that_are_none_of_the_writer(self):
        for data in [Data.of((None, None)), Data.of((3,)), Data.of((9,), (None,)), Data([]), Data([], width=2)]:
            self.assertIs(Spoiled(data).shows(CHAIN), False)
        wide = Chain(telling(0, marks=Marks((0, 0), (0,)), top=2), READER)
        self.assertIs(Spoiled(Data.of((None, 1))).shows(wide), True)
        self.assertIs(Spoiled(Data.of((None,))).shows(wide), False)

    def test_speaks_of_the_current_ones(self):
        chain = Chain(TWENTY_FIVE, TWELVE)
        found = watch(chain)
        last = found.pairs.pop()
        self.assertIs(found.shows(chain), False)
        found.pairs.append(last)
        self.assertIs(found.shows(chain), True)
        found = watch(CHAIN)
        found.data = Data.of((2,))
        self.assertIs(found.shows(CHAIN), False)
        found.data = Data.of((2,), (1,))
        self.assertIs(found.shows(CHAIN), True)


class TestAttributes(TestCase):

    def test_copied(self):
        pairs = [((1,), (1,))]
        found = Clean(pairs)
        pairs.clear()
        self.assertEqual(found.pairs, [((1,), (1,))])
        found.pairs.append(None)
        self.assertEqual(pairs, [])

    def test_equal(self):
        self.assert_equality(Clean([((1,), (0,)), ((2,), (2,))]), Clean([((1,), (0,)), ((2,), (2,))]),
                             [Clean([((2,), (2,)), ((1,), (0,))]), Clean([]), Alike([((1,), (0,)), ((2,), (2,))]),
                              Clean([((True,), (0,)), ((2,), (2,))]), Clean([((1,), (False,)), ((2,), (2,))])])
        self.assert_equality(Spoiled(Data.of((1,))), Spoiled(Data([(1,)])),
                             [Spoiled(Data([])), Spoiled(Data.of((2,))), Parted(Data.of((1,))), Data.of((1,))])
        self.assert_equality(CHAIN, Chain(Program.of(("tell", 0)), READER),
                             [Chain(READER, WRITER), Chain(WRITER, WRITER), Chain(READER, READER), WRITER,
                              Chain(~WRITER, READER), Chain(WRITER, ~READER)])


class TestWrongChains(TestCase):

    def test_programs(self):
        self.assert_no_programs(lambda thing: Chain(thing, WRITER), lambda thing: Chain(WRITER, thing),
                                lambda thing: Chain(thing, None), lambda thing: Chain(thing, TWENTY_FIVE))

    def test_unequal(self):
        for one, other in itertools.permutations([Program.of(("tell", 0), top=top) for top in range(1, 5)], 2):
            self.assert_refused(Unequal, lambda: Chain(one, other))
        self.assert_refused(BadProgram, lambda: Chain(Program.of(("tell", 0), top=1), 1))
        for other in [TOTAL, Program(2, Marks((0, 0), (0, 0, 0)), (None,) * 3, WRONG.steps)]:
            self.assertEqual([Chain(WRONG, other).reader, Chain(other, WRONG).writer], [other, other])

    def test_nothing_changes(self):
        writer, twin = [Program.of(("plus", "a", 0), ("tell", "a"), begin=(1,)) for _ in range(2)]
        chain, pairs = Chain(writer, ~READER), watch(Chain(TWENTY_FIVE, TWELVE)).pairs
        clean = Clean(pairs)
        watch(chain), chain(Data.of((1,))), clean.shows(Chain(TWENTY_FIVE, TWELVE)), spoiled_after(chain)
        self.assertEqual([chain.writer, chain.reader, clean.pairs], [twin, ~READER, pairs])


if __name__ == "__main__":
    unittest.main()
