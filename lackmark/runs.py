"""Runs: what a program does in a row, truly and plainly, and which events happen."""

from lackmark.errors import BadRow, BadStand
from lackmark.kinds import are_numbers_or_none
from lackmark.plainly import plain_move, plain_works, written_with
from lackmark.programs import check_data_for, check_program, is_row_for
from lackmark.truly import true_move, true_works

WORDS = ("met", "reckoned", "strayed")


def first_stand(program):
    """Return the stand at the beginning."""
    check_program(program)
    return program.begin


def first_contents(program):
    """Return the contents at the beginning."""
    check_program(program)
    return written_with(program.marks.registers, program.begin)


def true_after(program, stand, row):
    """Return the stand after a row, the list of what is told truly, and the list of the events."""
    _check_before_row(program, stand, row)
    return true_move(true_works(program), row, stand)


def plain_after(program, contents, row):
    """Return the contents after a row that is given truly, and the list of what is told plainly."""
    _check_before_row(program, contents, row)
    return plain_move(plain_works(program), written_with(program.marks.columns, row), contents)


def written(program, stand):
    """Return how a stand is written."""
    _check_stand(program, stand)
    return written_with(program.marks.registers, stand)


def taken(program, contents):
    """Return the stand that contents are taken for."""
    _check_stand(program, contents)
    return tuple([None if worth == mark else worth for worth, mark in zip(contents, program.marks.registers)])


def walk(program, data):
    """Yield the contents and the stand after each row, and the lists of what is told plainly and of the events."""
    check_program(program)
    check_data_for(program, data)
    contents, stand = first_contents(program), program.begin
    plainly, truly = plain_works(program), true_works(program)
    for row in data.rows:
        contents, told = plain_move(plainly, written_with(program.marks.columns, row), contents)
        stand, _, events = true_move(truly, row, stand)
        yield contents, stand, told, events


def is_stand(program, thing):
    """Say whether a thing, whatever it is, is a stand of a program; contents have the same form."""
    return are_numbers_or_none(thing, len(program.begin), program.top)


def _check_before_row(program, stand, row):
    """Refuse what is not a program, a stand or contents of it, and a row for it."""
    _check_stand(program, stand)
    if not is_row_for(program, row):
        raise BadRow("not a row for the columns of the program, with numbers up to its top")


def _check_stand(program, stand):
    """Refuse what is not a program, and a stand or contents of it."""
    check_program(program)
    if not is_stand(program, stand):
        raise BadStand("not a number up to the top, or None, for each register")
