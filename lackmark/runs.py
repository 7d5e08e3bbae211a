"""Runs: what a program does in a row, truly and plainly, and which events happen."""

from lackmark.errors import BadRow, BadStand
from lackmark.kinds import are_numbers_or_none
from lackmark.marks import COLUMNS
from lackmark.programs import (FORMS, OPERANDS, check_data_for, check_program, contents_of, do_step, is_over,
                               is_row_for, marks_by_place, plain_row, written_with)

WORDS = ("met", "reckoned", "strayed")


def first_stand(program):
    """Return the stand at the beginning."""
    check_program(program)
    return program.begin


def first_contents(program):
    """Return the contents at the beginning."""
    check_program(program)
    return written_with(program.marks.registers, program.begin)


def true_after(program, stand, row):
    """Return the stand after a row, the list of what is told truly, and the list of the events."""
    _check_before_row(program, stand, row)
    return true_row(program, stand, row)


def plain_after(program, contents, row):
    """Return the contents after a row that is given truly, and the list of what is told plainly."""
    _check_before_row(program, contents, row)
    return plain_row(program, contents, row)


def written(program, stand):
    """Return how a stand is written."""
    _check_stand(program, stand)
    return written_with(program.marks.registers, stand)


def taken(program, contents):
    """Return the stand that contents are taken for."""
    _check_stand(program, contents)
    return tuple([None if worth == mark else worth for worth, mark in zip(contents, program.marks.registers)])


def walk(program, data):
    """Yield the contents and the stand after each row, and the lists of what is told plainly and of the events."""
    check_program(program)
    check_data_for(program, data)
    contents, stand = first_contents(program), program.begin
    for row in data.rows:
        contents, told = plain_row(program, contents, row)
        stand, _, events = true_row(program, stand, row)
        yield contents, stand, told, events


def is_stand(program, thing):
    """Say whether a thing, whatever it is, is a stand of a program; contents have the same form."""
    return are_numbers_or_none(thing, len(program.begin), program.top)


def true_row(program, stand, row):
    """Return the stand after a row, the list of what is told truly, and the list of the events."""
    marks = marks_by_place(program.marks)
    # A true run is how a program runs plainly with own objects: nothing is then never taken for a number.
    own = {place: None for place in marks}
    held = dict(zip(marks, row + stand))
    told, events, index = [], [], 0
    while index < len(program.steps):
        step = program.steps[index]
        happened, getting = _happened_before(step, marks, held), _registers_getting(step, held)
        if step[0] == "tell":
            told.append(held[step[1]])
        skipped = do_step(step, program.top, own, held)
        happened = happened + _met_at(getting, marks, held)
        events.extend([(index, word, place) for word, place in happened])
        index = index + 1 + skipped
    return contents_of(held), told, events


def _happened_before(step, marks, held):
    """Return the words and places of the events at a step that do not hang on what it writes."""
    met = _met_at(_columns_read(step, held), marks, held)
    reckoned = [("reckoned", place) for place in _places_reckoned(step, marks) if held[place] is None]
    strayed = [("strayed", place) for place in _places_copied_over(step, marks) if held[place] is None]
    return met + reckoned + strayed


def _met_at(places, marks, held):
    """Return what is met at those of these places that have a number which is their mark."""
    return [("met", place) for place in places if held[place] is not None and held[place] == marks[place]]


def _columns_read(step, held):
    """Return the columns that a step reads, in the order in which it names them."""
    if step[0] == "else" and held[step[1]] is not None:
        return []
    return [part for part, letter in zip(step[1:], FORMS[step[0]]) if letter == "p" and part in COLUMNS]


def _places_reckoned(step, marks):
    """Return the places at which a step reckons with the mark, if they are empty."""
    if step[0] == "same":
        return [place for place in step[1:3] if marks[step[1]] != marks[step[2]]]
    return [step[at] for at in OPERANDS.get(step[0], ()) if marks[step[at]] is not None]


def _places_copied_over(step, marks):
    """Return the place whose mark is another one where a step copies it to, if there is one."""
    return [step[2]] if step[0] == "copy" and marks[step[1]] != marks[step[2]] else []


def _registers_getting(step, held):
    """Return the registers that get something by a step, before it is done."""
    if step[0] == "sort":
        return [step[1], step[2]] if is_over(held[step[1]], held[step[2]]) else []
    if FORMS[step[0]][0] != "r" or (step[0] == "else" and held[step[1]] is not None):
        return []
    return [step[1]]


def _check_before_row(program, stand, row):
    """Refuse what is not a program, a stand or contents of it, and a row for it."""
    _check_stand(program, stand)
    if not is_row_for(program, row):
        raise BadRow("not a row for the columns of the program, with numbers up to its top")


def _check_stand(program, stand):
    """Refuse what is not a program, and a stand or contents of it."""
    check_program(program)
    if not is_stand(program, stand):
        raise BadStand("not a number up to the top, or None, for each register")
