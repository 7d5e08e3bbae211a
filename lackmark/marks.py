"""Marks: how nothing is written at each place."""

from lackmark.errors import BadMarks, BadPlace
from lackmark.kinds import is_between, is_number_or_none

COLUMNS = (0, 1)
REGISTERS = ("a", "b", "c")
PLACES = (0, 1, "a", "b", "c")

# No mark is a number below 0, so this one is free to say that there is no mark.
NO_MARK = -1


class Marks:
    """Marks for one or two columns and one to three registers; marks never change."""

    def __init__(self, columns, registers):
        if not _are_marks(columns, len(COLUMNS)) or not _are_marks(registers, len(REGISTERS)):
            raise BadMarks("not marks for one or two columns and one to three registers")
        self._columns = tuple(columns)
        self._registers = tuple(registers)
        self._table = dict(list(zip(COLUMNS, columns)) + list(zip(REGISTERS, registers)))

    @property
    def columns(self):
        """The tuple of the marks of the columns."""
        return self._columns

    @property
    def registers(self):
        """The tuple of the marks of the registers."""
        return self._registers

    def __getitem__(self, at):
        if at not in self:
            raise BadPlace("not a place that has a mark")
        return self._table[at]

    def __contains__(self, x):
        return is_place(x) and x in self._table

    def __iter__(self):
        raise TypeError("marks are not iterated over, but their columns and registers are")

    def __or__(self, other):
        if not _are_changes(other, self):
            raise BadMarks("not a dict from such places to marks")
        columns = _changed(COLUMNS, self._columns, other)
        registers = _changed(REGISTERS, self._registers, other)
        return Marks(columns, registers)

    def __xor__(self, other):
        check_marks(other)
        return [place for place in PLACES if _mark_at(self, place) != _mark_at(other, place)]

    def __invert__(self):
        return Marks((None,) * len(self._columns), (None,) * len(self._registers))

    def __len__(self):
        return len(self._table)

    def own(self):
        """Return the list of the places whose mark is an own object, columns first."""
        return [place for place in PLACES if _mark_at(self, place) is None]

    def __eq__(self, other):
        return isinstance(other, Marks) and self._columns == other._columns and self._registers == other._registers


def is_place(thing):
    """Say whether a thing, whatever it is, is a column or a register."""
    if isinstance(thing, str):
        return thing in REGISTERS
    return is_between(thing, 0, 1)


def check_marks(thing):
    """Refuse a thing, whatever it is, that is not marks."""
    if not isinstance(thing, Marks):
        raise BadMarks("not marks")


def _are_marks(thing, most):
    """Say whether a thing is a tuple of one to so many marks."""
    if not isinstance(thing, tuple) or not is_between(len(thing), 1, most):
        return False
    return all([is_number_or_none(mark) for mark in thing])


def _are_changes(thing, marks):
    """Say whether a thing is a dict from places that have a mark to marks."""
    if not isinstance(thing, dict):
        return False
    return all([place in marks and is_number_or_none(mark) for place, mark in thing.items()])


def _mark_at(marks, place):
    """Return the mark of a place, or what says that there is none."""
    return marks[place] if place in marks else NO_MARK


def _changed(places, marks, changes):
    """Return the marks of these places, with others where there are changes."""
    return tuple([changes.get(place, mark) for place, mark in zip(places, marks)])
