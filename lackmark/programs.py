"""Programs: their parts, and what they do and tell in plain runs."""

from lackmark.data import Data
from lackmark.errors import BadData, BadNumber, BadProgram
from lackmark.kinds import are_numbers_or_none, is_between, is_number_or_none
from lackmark.marks import Marks
from lackmark.plainly import plain_move, plain_works, written_with

PARTS = ("TOP", "MARKS", "BEGIN", "STEPS")
MOST_TOP = 4
MOST_STEPS = 8

# What belongs to the word of a step, one letter for each part: a (r)egister, a (p)lace, a number or None as (v)alue,
# a (t)able of such values, or the (n)umber of the next steps that are skipped.
FORMS = {"copy": "rp", "turn": "rp", "plus": "rp", "less": "rp", "most": "rp", "least": "rp", "sort": "rr",
         "find": "rpt", "set": "rv", "else": "rp", "lack": "pn", "same": "ppn", "over": "ppn", "tell": "p"}
OF_TWO_PLACES = ("sort", "same", "over")
SKIPPING = ("lack", "same", "over")

# Where the operands of each reckoning step stand in it.
OPERANDS = {"plus": (1, 2), "less": (1, 2), "most": (1, 2), "least": (1, 2), "sort": (1, 2), "find": (2,),
            "over": (1, 2)}


class Program:
    """Steps for each row of data, with a top, marks and a begin; programs never change."""

    def __init__(self, top, marks, begin, steps):
        if not is_between(top, 1, MOST_TOP):
            raise BadProgram("TOP")
        if not _are_marks(marks, top):
            raise BadProgram("MARKS")
        if not _is_begin(begin, top, marks):
            raise BadProgram("BEGIN")
        if not _are_steps(steps, top, marks):
            raise BadProgram("STEPS")
        self._top = top
        self._marks = marks
        self._begin = tuple(begin)
        self._steps = tuple(steps)

    @classmethod
    def of(cls, *steps, top=2, marks=None, begin=(None,)):
        """Return the program with some steps; without marks, 0 is the mark of one column and of one register."""
        return cls(top, Marks((0,), (0,)) if marks is None else marks, begin, steps)

    @property
    def top(self):
        """The greatest number that there is."""
        return self._top

    @property
    def marks(self):
        """The marks of the places."""
        return self._marks

    @property
    def begin(self):
        """The tuple of what each register has at the beginning."""
        return self._begin

    @property
    def steps(self):
        """The tuple of the steps."""
        return self._steps

    def __len__(self):
        return len(self._steps)

    def __getitem__(self, at):
        if not is_between(at, 0, len(self._steps) - 1):
            raise BadNumber("not the index of a step")
        return self._steps[at]

    def __iter__(self):
        raise TypeError("programs are not iterated over, but their steps are")

    def __mod__(self, other):
        return Program(self._top, other, self._begin, self._steps)

    def __invert__(self):
        return Program(self._top, ~self._marks, self._begin, self._steps)

    def __call__(self, data):
        """Return the list of the lists of what is told plainly in each row."""
        check_data_for(self, data)
        contents, works, every = written_with(self._marks.registers, self._begin), plain_works(self), []
        for row in data.rows:
            contents, told = plain_move(works, written_with(self._marks.columns, row), contents)
            every.append(told)
        return every

    def __xor__(self, other):
        check_program(other)
        same = (self._top == other.top, self._marks == other.marks, self._begin == other.begin,
                self._steps == other.steps)
        return [part for part, alike in zip(PARTS, same) if not alike]

    def __eq__(self, other):
        return (isinstance(other, Program) and self._top == other._top and self._marks == other._marks
                and self._begin == other._begin and self._steps == other._steps)


def check_program(thing):
    """Refuse a thing, whatever it is, that is not a program."""
    if not isinstance(thing, Program):
        raise BadProgram()


def check_data_for(program, thing):
    """Refuse a thing, whatever it is, that is not data for a program."""
    if not are_data_for(program, thing):
        raise BadData("not data for the columns of the program, with numbers up to its top")


def are_data_for(program, thing):
    """Say whether a thing, whatever it is, is data for a program."""
    if not isinstance(thing, Data) or thing.width != len(program.marks.columns):
        return False
    return all([is_row_for(program, row) for row in thing.rows])


def is_row_for(program, thing):
    """Say whether a thing, whatever it is, is a row for a program."""
    return are_numbers_or_none(thing, len(program.marks.columns), program.top)


def _are_marks(thing, top):
    """Say whether a thing is marks, none greater than the top."""
    if not isinstance(thing, Marks):
        return False
    return all([is_number_or_none(mark, top) for mark in thing.columns + thing.registers])


def _is_begin(thing, top, marks):
    """Say whether a thing is a tuple with a number that is not the mark, or None, for each register."""
    if not are_numbers_or_none(thing, len(marks.registers), top):
        return False
    return all([worth is None or worth != mark for worth, mark in zip(thing, marks.registers)])


def _are_steps(thing, top, marks):
    """Say whether a thing is a tuple of one to eight steps."""
    if not isinstance(thing, tuple) or not is_between(len(thing), 1, MOST_STEPS):
        return False
    return all([_is_step(step, top, marks, len(thing) - 1 - index) for index, step in enumerate(thing)])


def _is_step(thing, top, marks, behind):
    """Say whether a thing is a step with so many steps behind it."""
    if not isinstance(thing, tuple) or len(thing) == 0 or not isinstance(thing[0], str) or thing[0] not in FORMS:
        return False
    word, form = thing[0], FORMS[thing[0]]
    if len(thing) != 1 + len(form):
        return False
    if not all([_is_part(part, letter, top, marks, behind) for part, letter in zip(thing[1:], form)]):
        return False
    return word not in OF_TWO_PLACES or thing[1] != thing[2]


def _is_part(thing, letter, top, marks, behind):
    """Say whether a thing is a part of a step for which this letter stands in its form."""
    if letter == "r":
        return isinstance(thing, str) and thing in marks
    if letter == "p":
        return thing in marks
    if letter == "v":
        return is_number_or_none(thing, top)
    if letter == "t":
        return are_numbers_or_none(thing, top + 1, top)
    return is_between(thing, 0, behind)
