"""Tests of lackmark.texts."""

import itertools
import unittest

from lackmark import texts
from lackmark.data import Data
from lackmark.errors import BadData, BadMarks, BadText
from lackmark.marks import Marks
from lackmark.programs import Program
from lackmark.texts import data_text, program_text, read_data, read_program
from tests import oracle
from tests.cases import TestCase, WRONG
from tests.things import Whole, all_but

ONE, OWN = Marks((0,), (0,)), Marks((None,), (0,))
TWO = Marks((0, None), (0,))
NO_MARKS = all_but() + [Marks, (0,), Data([]), WRONG]

# One step of each kind, with each of its parts, and the lines of the texts of these.
EVERY = Program(3, Marks((0, None), (1, None, 3)), (None, 2, 0),
                (("copy", "a", 1), ("turn", "b", "c"), ("find", "c", 0, (1, None, 0, 3)), ("set", "a", None),
                 ("set", "b", 2), ("lack", "a", 2), ("same", 0, "a", 1), ("tell", 1)))
OTHER = Program(4, Marks((None,), (4, 0)), (None, None),
                (("plus", "a", 0), ("less", "b", "a"), ("most", "a", "b"), ("least", "b", 0), ("sort", "b", "a"),
                 ("else", "a", 0), ("over", "a", 0, 1), ("tell", "b")))
EVERY_TEXT = "top 3\ncolumns 0 -\nregisters 1 - 3\nbegin - 2 0\ncopy a 1\nturn b c\nfind c 0 1 - 0 3\nset a -\n" \
             "set b 2\nlack a 2\nsame 0 a 1\ntell 1\n"
OTHER_TEXT = "top 4\ncolumns -\nregisters 4 0\nbegin - -\nplus a 0\nless b a\nmost a b\nleast b 0\nsort b a\n" \
             "else a 0\nover a 0 1\ntell b\n"
HEAD = "top 2\ncolumns 0\nregisters 0\nbegin -\n"


class TextCase(TestCase):

    def assert_row(self, call, row, about=None):
        """Check that a text is refused, because of this row."""
        error = self.assert_refused(BadText, call, about=about)
        self.assertEqual(error.row, row, about)
        self.assertIs(type(error.row), int)

    def assert_no_program(self, text, row):
        self.assert_row(lambda: read_program(text), row, text)


class TestExamples(TextCase):

    def test_document(self):
        data, program = Data.of((1, None), (None, 0)), Program.of(('find', 'a', 0, (1, None, 0)), ('same', 'a', 0, 0))
        self.assertEqual([data_text(data, Marks((0, None), (0,))),
                          read_data('1 -\n0 0\n', Marks((0, None), (0,))) == data,
                          read_data('1 0\n', Marks((0, 0), (0,))).rows, program_text(program),
                          read_program(program_text(program)) == program],
                         ['1 -\n0 0\n', True, ((1, None),),
                          'top 2\ncolumns 0\nregisters 0\nbegin -\nfind a 0 1 - 0\nsame a 0 0\n', True])


class TestInterface(TextCase):

    def test_defined_here(self):
        for name in ["data_text", "read_data", "program_text", "read_program"]:
            self.assertEqual(getattr(texts, name).__module__, "lackmark.texts")

    def test_names_of_parameters(self):
        self.assertEqual(data_text(data=Data.of((1,)), marks=ONE), "1\n")
        self.assertEqual(read_data(text="1\n", marks=ONE), Data.of((1,)))
        self.assertEqual(read_program(text=program_text(program=EVERY)), EVERY)


class TestDataText(TextCase):

    def test_one_column(self):
        data = Data.of((1,), (None,), (0,), (9,))
        for marks, due in [(ONE, "1\n0\n0\n9\n"), (OWN, "1\n-\n0\n9\n"), (Marks((9,), (0,)), "1\n9\n0\n9\n")]:
            self.assertEqual(data_text(data, marks), due)

    def test_two_columns(self):
        data = Data.of((1, None), (None, 2), (None, None), (0, 0))
        for marks, due in [(TWO, "1 -\n0 2\n0 -\n0 0\n"), (Marks((7, 8), (0,)), "1 8\n7 2\n7 8\n0 0\n"),
                           (Marks((None, None), (0,)), "1 -\n- 2\n- -\n0 0\n")]:
            self.assertEqual(data_text(data, marks), due)

    def test_without_rows_and_with_300(self):
        self.assertEqual([data_text(Data([]), ONE), data_text(Data([], width=2), TWO)], ["", ""])
        self.assertEqual(data_text(Data([(1,)] * 300), ONE), "1\n" * 300)

    def test_integers_of_a_subclass(self):
        self.assertEqual(data_text(Data.of((Whole(1),)), Marks((Whole(2),), (0,))), "1\n")

    def test_wrong_arguments(self):
        for thing in all_but() + [[(1,)], ((1,),), "1\n", ONE]:
            self.assert_refused(BadData, lambda: data_text(thing, ONE), lambda: data_text(thing, None), about=thing)
        for thing in NO_MARKS + [TWO]:
            self.assert_refused(BadMarks, lambda: data_text(Data.of((1,)), thing),
                                lambda: data_text(Data([]), thing), about=thing)
        self.assert_refused(BadMarks, lambda: data_text(Data([], width=2), ONE), lambda: data_text(Data.of((1, 1)),
                                                                                                   OWN))


class TestReadData(TextCase):

    def test_there_and_back(self):
        for chance in oracle.chances(100):
            width = chance.randint(1, 2)
            marks = Marks(tuple(chance.choice([None, *range(10)]) for _ in range(width)), (0,))
            rows = [tuple(chance.choice([None, *range(10)]) for _ in range(width)) for _ in range(chance.randint(0, 9))]
            text = data_text(Data(rows, width=width), marks)
            due = [tuple(None if worth == mark else worth for worth, mark in zip(row, marks.columns)) for row in rows]
            self.assertEqual(read_data(text, marks), Data(due, width=width))
            self.assertEqual(data_text(read_data(text, marks), marks), text)

    def test_numbers_that_are_the_mark(self):
        self.assertEqual(read_data("0\n1\n", ONE).rows, ((None,), (1,)))
        self.assertEqual(read_data("0\n1\n-\n", OWN).rows, ((0,), (1,), (None,)))
        self.assertEqual(read_data("0 0\n", TWO).rows, ((None, 0),))

    def test_own_objects_only_where_the_mark_is_one(self):
        self.assert_row(lambda: read_data("-\n", ONE), 0)
        self.assert_row(lambda: read_data("1 -\n- 1\n", TWO), 1)
        self.assertEqual(read_data("- -\n", Marks((None, None), (1,))).rows, ((None, None),))

    def test_without_rows_and_with_300(self):
        self.assertEqual([read_data("", ONE), read_data("", TWO)], [Data([]), Data([], width=2)])
        self.assertEqual(read_data("1\n" * 300, ONE), Data([(1,)] * 300))

    def test_more_rows(self):
        self.assert_row(lambda: read_data("1\n" * 301, ONE), 300)
        self.assert_row(lambda: read_data("1\n" * 400, ONE), 300)
        self.assert_row(lambda: read_data("1\n" * 300 + "x\n", ONE), 300)
        self.assert_row(lambda: read_data("1\n" * 299 + "x\n1\n1\n", ONE), 299)
        self.assert_row(lambda: read_data("1\n" * 301 + "1", ONE), 300)

    def test_characters_behind_the_last_line(self):
        for text, row in [("1", 0), ("1\n1", 1), ("1\n2\n ", 2), ("1\n" * 300 + "1", 300), ("x", 0), ("1\n-", 1), (" ",
                                                                                                                   0),
                          ("1\nx\n1", 1), ("\r", 0)]:
            self.assert_row(lambda: read_data(text, ONE), row, text)

    def test_no_lines(self):
        wrong = ["", " ", " 1", "1 ", "1  1", "\t1", "1\t", "01", "10", "00", "a", "x", "+1", "-1", "--", "1.0", "1,",
                 "1\r", "\r", "1 1", "1\x0b", "1\x0c", "1\x1c", "1\x85", "1\u2028", "\u0661", "\u00b2", "\uff11",
                 "1\u00a0",
                 "None", "\x00", "O", "'1'", "1 -"]
        for line, at in itertools.product(wrong, range(3)):
            lines = ["1", "0", "2"]
            lines[at] = line
            self.assert_row(lambda: read_data("\n".join(lines) + "\n", ONE), at, line)
        wide = ["1", "1 1 1", "1  1", " 1 1", "1 1 ", "1\t1", "1 01", "10 1", "1 a", "", " ", "1 \u0662", "11", "1- -",
                "- 1"]
        for line, at in itertools.product(wide, range(3)):
            lines = ["1 -", "0 3", "2 1"]
            lines[at] = line
            self.assert_row(lambda: read_data("\n".join(lines) + "\n", TWO), at, line)

    def test_the_first_line_that_is_wrong(self):
        self.assert_row(lambda: read_data("1\nx\n\n-", ONE), 1)

    def test_each_character(self):
        for at in list(range(300)) + [0x660, 0x967, 0x2460, 0x1d7ce]:
            for text in [chr(at) + "\n", "1" + chr(at) + "\n"]:
                if text in [f"{number}\n" for number in range(10)]:
                    self.assertEqual(len(read_data(text, ONE)), 1)
                elif text == "\n\n" or text == "1\n\n":
                    self.assert_row(lambda: read_data(text, ONE), len(text) - 2)
                else:
                    self.assert_row(lambda: read_data(text, ONE), 0, text)

    def test_wrong_arguments(self):
        for thing in NO_MARKS:
            self.assert_refused(BadMarks, lambda: read_data("1\n", thing), lambda: read_data(None, thing), about=thing)
        for thing in all_but(str) + [Data([]), ["1\n"], b"1\n"]:
            self.assert_row(lambda: read_data(thing, ONE), 0, thing)


class TestProgramText(TextCase):

    def test_each_kind_of_step(self):
        self.assertEqual([program_text(EVERY), program_text(OTHER)], [EVERY_TEXT, OTHER_TEXT])
        self.assertEqual([read_program(EVERY_TEXT), read_program(OTHER_TEXT)], [EVERY, OTHER])
        words = {step[0] for step in EVERY.steps + OTHER.steps}
        self.assertEqual(words, set(oracle.FORMS))

    def test_there_and_back(self):
        for chance in oracle.chances(200):
            program = oracle.random_program(chance)
            self.assertEqual(read_program(program_text(program)), program)

    def test_integers_of_a_subclass(self):
        program = Program(Whole(2), ONE, (Whole(1),), (("set", "a", Whole(2)),))
        self.assertEqual(program_text(program), "top 2\ncolumns 0\nregisters 0\nbegin 1\nset a 2\n")

    def test_no_programs(self):
        self.assert_no_programs(program_text)


class TestReadProgram(TextCase):

    def test_no_strings(self):
        for thing in all_but(str) + [WRONG, [HEAD], b"top 2\n"]:
            self.assert_no_program(thing, 0)

    def test_heads(self):
        heads, step = HEAD.split("\n")[:4], "tell 0"
        wrong = [["top", "top ", "top 2 2", "top a", "top 10", "top 02", "top  2", " top 2", "Top 2", "top 2 ",
                  "tops 2", "", "tell 0", "columns 0", "top\t2", "top +2", "top -1", "top --", "top \u0662", "2",
                  "top 2\r"],
                 ["columns", "columns 0 0 0", "columns a", "columns 10", "column 0", "columns  0", "columns 0 ",
                  "top 2", "", "registers 0", "tell 0", "columns 0 a", "columns\u00a00", "columns None"],
                 ["registers", "registers 0 0 0 0", "registers a", "registers 0 b", "register 0", "begin -", "",
                  "columns 0", "registers 0  0", "registers 12", "tell 0", "registers 0\t0"],
                 ["begin", "begin - - - -", "begin a", "begin 0 a", "registers 0", "tell 0", "", "begin - ", "begins -",
                  "begin --", "begin -1", "begin 1 2 3 4"]]
        for at in range(4):
            for line in wrong[at]:
                lines = heads[:at] + [line] + heads[at + 1:] + [step]
                self.assert_no_program("\n".join(lines) + "\n", at)

    def test_lines_left_out_exchanged_and_doubled(self):
        lines = EVERY_TEXT.split("\n")[:-1]
        for at in range(4):
            self.assert_no_program("\n".join(lines[:at] + lines[at + 1:]) + "\n", at)
            self.assert_no_program("\n".join(lines[:at + 1] + lines[at:]) + "\n", at + 1)
            self.assert_no_program("\n".join(lines[:at] + lines[at:at + 2][::-1] + lines[at + 2:]) + "\n", at)
        for at in range(4, 12):
            text = "\n".join(lines[:at] + lines[at + 1:]) + "\n"
            if at in (10, 11):
                # The skips in front of these are too long without them.
                self.assert_no_program(text, 0)
            else:
                self.assertEqual(read_program(text).steps, EVERY.steps[:at - 4] + EVERY.steps[at - 3:])
            self.assert_no_program("\n".join(lines[:at + 1] + lines[at:]) + "\n", 0)

    def test_lines_of_steps(self):
        wrong = ["", " ", "tell", "tell ", "tell 0 0", "tell  0", " tell 0", "tell 0 ", "tell d", "tell A", "tell 10",
                 "tell 00", "tell aa", "tell ab", "Tell 0", "say 0", "tell\t0", "tell 0\r", "tell \u0661", "tell -1",
                 "tell --", "copy a", "copy a 0 0", "copy", "plus a", "sort a b c", "sort a", "set a", "set a 1 1",
                 "lack a", "lack 0 0 0", "same a b", "same a b 0 0", "over a", "over a b 0 1", "find", "find a",
                 "else a",
                 "find a 0 1 x", "find a 0 1 10", "find a 0 1  2", "find a 0 1 2 ", "top 2", "columns 0", "begin -",
                 "turn a b 0", "less a", "most b", "least c", "#", "tell (0)", "tell None", "2 0", "- -", "a b",
                 "tell e"]
        for line, at in itertools.product(wrong, range(3)):
            lines = HEAD.split("\n")[:4] + ["tell 0"] * 3
            lines[4 + at] = line
            self.assert_no_program("\n".join(lines) + "\n", 4 + at)

    def test_of_their_form_but_no_program(self):
        steps = ["tell 1", "tell -", "tell 2", "tell b", "tell c", "copy 0 a", "copy - a", "copy a -", "copy a 1",
                 "set 0 1", "set - 1", "set a 3", "set a b", "set a a", "lack 0 1", "lack 0 9", "lack 0 -", "lack 0 a",
                 "lack - 0",
                 "same 0 0 0", "same a a 0", "same a 0 1", "over 0 0 0", "over a 0 -", "over - - -", "sort a a",
                 "sort a 0", "sort 0 a", "sort a b", "find a 0", "find a 0 1", "find a 0 1 1", "find a 0 1 1 1 1",
                 "find a 0 1 1 3", "find a 0 1 a 1", "find 0 0 1 1 1", "find a - 1 1 1", "plus 1 2", "else 0 a",
                 "turn 0 0", "find a 0 " + "1 " * 40 + "1", "find a a a a a", "find - -"]
        for step in steps:
            self.assert_no_program(HEAD + step + "\n", 0)
            self.assert_no_program(HEAD + "tell 0\n" + step + "\n", 0)
        heads = ["top 0\ncolumns 0\nregisters 0\nbegin -\n", "top 5\ncolumns 0\nregisters 0\nbegin -\n",
                 "top -\ncolumns 0\nregisters 0\nbegin -\n", "top 9\ncolumns 0\nregisters 0\nbegin -\n",
                 "top 2\ncolumns 3\nregisters 0\nbegin -\n", "top 2\ncolumns 0 9\nregisters 0\nbegin -\n",
                 "top 2\ncolumns 0\nregisters 3\nbegin -\n", "top 2\ncolumns 0\nregisters 0 0 4\nbegin - - -\n",
                 "top 2\ncolumns 0\nregisters 0\nbegin 0\n", "top 2\ncolumns 0\nregisters 0\nbegin 3\n",
                 "top 2\ncolumns 0\nregisters 0\nbegin - -\n", "top 2\ncolumns 0\nregisters 0 0\nbegin -\n",
                 "top 2\ncolumns 0\nregisters 1 2\nbegin 2 2\n"]
        for head in heads:
            self.assert_no_program(head + "tell 0\n", 0)
        for many in range(1, 9):
            self.assertEqual(len(read_program(HEAD + "tell 0\n" * many)), many)
        for many in [9, 10, 300]:
            self.assert_no_program(HEAD + "tell 0\n" * many, 0)

    def test_no_line_for_a_step(self):
        for many in range(5):
            text = "".join(line + "\n" for line in HEAD.split("\n")[:many])
            self.assert_no_program(text, many)
            self.assert_no_program("".join(line + "\n" for line in ["top 9", "columns 9", "registers 0",
                                                                    "begin 0"][:many]),
                                   many)

    def test_characters_behind_the_last_line(self):
        for rest in ["tell 0", " ", "x", "\r", "top 2", "-"]:
            for many in range(1, 5):
                self.assert_no_program(HEAD + "tell 0\n" * many + rest, 4 + many)
            self.assert_no_program(HEAD + rest, 4)
            self.assert_no_program(rest, 0)
            self.assert_no_program("top 2\n" + rest, 1)
            self.assert_no_program(HEAD + "tell 7\n" + rest, 5)
            self.assert_no_program(HEAD + "tell 0\n" * 20 + rest, 24)
        self.assert_no_program(EVERY_TEXT[:-1], 11)

    def test_the_first_line_that_is_wrong(self):
        self.assert_no_program("top 9\ncolumns x\nregisters\n", 1)
        self.assert_no_program(HEAD + "tell 9\nfoo\nbar", 5)
        self.assert_no_program(HEAD + "\n\n", 4)
        self.assert_no_program("\n" + HEAD + "tell 0\n", 0)
        self.assert_no_program(HEAD.replace("\n", "\r\n") + "tell 0\r\n", 0)

    def test_each_change_of_a_character(self):
        outcomes = {}
        for text, chance in itertools.product([EVERY_TEXT, OTHER_TEXT], oracle.chances(300)):
            at, letter = chance.randrange(len(text)), chance.choice(" \n-0123489abcdt\t\r\u0663")
            changed = text[:at] + letter + text[at + chance.choice([0, 1]):]
            try:
                program = read_program(changed)
            except BadText as error:
                outcomes[error.row > 0] = True
                continue
            outcomes[None] = True
            self.assertEqual(program_text(program), changed)
        self.assertEqual(set(outcomes), {False, True, None})


if __name__ == "__main__":
    unittest.main()
