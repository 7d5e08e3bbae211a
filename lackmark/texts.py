"""Texts: data and programs as lines of words."""

from lackmark.data import Data, MOST_ROWS, check_data
from lackmark.errors import BadMarks, BadProgram, BadText
from lackmark.kinds import is_between
from lackmark.marks import Marks, REGISTERS, check_marks
from lackmark.plainly import written_with
from lackmark.programs import FORMS, Program, check_program

NOTHING = "-"
NUMBERS = {"0": 0, "1": 1, "2": 2, "3": 3, "4": 4, "5": 5, "6": 6, "7": 7, "8": 8, "9": 9}

# The words of the lines in front of those of the steps, with how many words are behind each at most.
HEADS = (("top", 1), ("columns", 2), ("registers", 3), ("begin", 3))


def data_text(data, marks):
    """Return the text of data, written with marks."""
    check_data(data)
    check_marks(marks)
    if len(marks.columns) != data.width:
        raise BadMarks("not for as many columns")
    return _text_of([_words_of(written_with(marks.columns, row)) for row in data.rows])


def read_data(text, marks):
    """Return the data of a text, written with marks."""
    check_marks(marks)
    lines, rest = _lines_of(text)
    rows = []
    for index, line in enumerate(lines):
        row = _row_of(line.split(" "), marks.columns)
        if row is None or index >= MOST_ROWS:
            raise BadText(index)
        rows.append(row)
    if rest != "":
        raise BadText(len(lines))
    return Data(rows, width=len(marks.columns))


def program_text(program):
    """Return the text of a program."""
    check_program(program)
    marks = program.marks
    parts = ((program.top,), marks.columns, marks.registers, program.begin)
    heads = [[head[0]] + _words_of(part) for head, part in zip(HEADS, parts)]
    return _text_of(heads + [_words_of_step(step) for step in program.steps])


def read_program(text):
    """Return the program of a text."""
    lines, rest = _lines_of(text)
    parts = []
    for index, line in enumerate(lines):
        words = line.split(" ")
        if not _is_of_form(words, index):
            raise BadText(index)
        parts.append(_parts_of(words))
    if rest != "" or len(lines) <= len(HEADS):
        raise BadText(len(lines))
    top, columns, registers, begin = parts[:len(HEADS)]
    marks, steps = Marks(columns[1:], registers[1:]), tuple(parts[len(HEADS):])
    try:
        return Program(top[1], marks, begin[1:], steps)
    except BadProgram:
        raise BadText(0) from None


def _lines_of(text):
    """Return the list of the lines of a text, and the characters behind the last line feed."""
    if not isinstance(text, str):
        raise BadText(0)
    pieces = text.split("\n")
    return pieces[:-1], pieces[-1]


def _text_of(lines):
    """Return the text of a list of lines, each a list of words."""
    return "".join([" ".join(words) + "\n" for words in lines])


def _words_of(worths):
    """Return the list of the words for numbers and None."""
    return [NOTHING if worth is None else str(worth) for worth in worths]


def _words_of_step(step):
    """Return the list of the words of a step."""
    words = [step[0]]
    for part in step[1:]:
        words.extend(_words_of(part if isinstance(part, tuple) else (part,)))
    return words


def _row_of(words, marks):
    """Return the row that is written in these words with these marks, None if it is none."""
    if len(words) != len(marks):
        return None
    row = []
    for word, mark in zip(words, marks):
        if word not in NUMBERS and (word != NOTHING or mark is not None):
            return None
        number = NUMBERS.get(word)
        row.append(None if number == mark else number)
    return tuple(row)


def _is_of_form(words, index):
    """Say whether words are of the form of the line with this index in the text of a program."""
    word, parts = words[0], words[1:]
    if index < len(HEADS):
        head, most = HEADS[index]
        return word == head and is_between(len(parts), 1, most) and all([_is_value(part) for part in parts])
    if word not in FORMS or not all([_is_value(part) or part in REGISTERS for part in parts]):
        return False
    if FORMS[word].endswith("t"):
        return len(parts) >= len(FORMS[word]) - 1
    return len(parts) == len(FORMS[word])


def _is_value(word):
    """Say whether a word is a number from 0 to 9, or stands for nothing."""
    return word in NUMBERS or word == NOTHING


def _parts_of(words):
    """Return the tuple of a line's first word and what the others say, those of a table in a tuple of their own."""
    parts = [word if word in REGISTERS else NUMBERS.get(word) for word in words[1:]]
    if words[0] in FORMS and FORMS[words[0]].endswith("t"):
        many = len(FORMS[words[0]]) - 1
        parts = parts[:many] + [tuple(parts[many:])]
    return (words[0], *parts)
