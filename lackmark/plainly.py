"""Plain runs: for each step of a program, a function that does it with what stands at the places.

What is held is a list of what stands at each place, at the columns first. A function for a step changes it, adds to
the list of what is told, and returns the index of the step that is done next.
"""

from lackmark.marks import COLUMNS, REGISTERS


def marks_by_place(marks):
    """Return a dict from the places to their marks, columns first."""
    return dict(list(zip(COLUMNS, marks.columns)) + list(zip(REGISTERS, marks.registers)))


def positions(marks):
    """Return a dict from the places of such a dict to where they are in what is held."""
    return {place: at for at, place in enumerate(marks)}


def written_with(marks, worths):
    """Return the tuple of how numbers and nothing are written with these marks, one for each."""
    return tuple([mark if worth is None else worth for worth, mark in zip(worths, marks)])


def plain_works(program, *, as_stands=False):
    """Return the list of the functions for the steps; what is told is a number or None, or just what stands there."""
    marks, works = marks_by_place(program.marks), []
    plan = (positions(marks), marks, program.top)
    for index, step in enumerate(program.steps):
        make = _showing if as_stands and step[0] == "tell" else MAKERS[step[0]]
        works.append(make(step, index + 1, plan))
    return works


def plain_move(works, row, contents):
    """Return the contents after a row, which is written already, and the list of what is told."""
    held, told, index, many = [*row, *contents], [], 0, len(works)
    while index < many:
        work = works[index]
        index = work(held, told)
    return tuple(held[len(row):]), told


def _copying(step, behind, plan):
    """Return the function for a step that copies."""
    positions_of, _, _ = plan
    to, at = positions_of[step[1]], positions_of[step[2]]

    def work(held, told):
        held[to] = held[at]
        return behind
    return work


def _turning(step, behind, plan):
    """Return the function for a step that turns."""
    positions_of, marks, _ = plan
    to, at = positions_of[step[1]], positions_of[step[2]]
    mark, gone = marks[step[1]], marks[step[2]]

    def work(held, told):
        worth = held[at]
        held[to] = mark if worth is None or worth == gone else worth
        return behind
    return work


def _turning_if_empty(step, behind, plan):
    """Return the function for a step that turns if its register is empty."""
    work_if_empty, to, mark = _turning(step, behind, plan), plan[0][step[1]], plan[1][step[1]]

    def work(held, told):
        worth = held[to]
        return work_if_empty(held, told) if worth is None or worth == mark else behind
    return work


def _reckoning(step, behind, plan):
    """Return the function for a step that reckons with two numbers."""
    positions_of, marks, top = plan
    to, at = positions_of[step[1]], positions_of[step[2]]
    mark, reckon = marks[step[1]], RECKONING[step[0]]

    def work(held, told):
        one, other = held[to], held[at]
        held[to] = mark if one is None or other is None else reckon(one, other, top)
        return behind
    return work


def _sorting(step, behind, plan):
    """Return the function for a step that sorts."""
    positions_of, _, _ = plan
    at, other_at = positions_of[step[1]], positions_of[step[2]]

    def work(held, told):
        one, other = held[at], held[other_at]
        if one is not None and other is not None and one > other:
            held[at], held[other_at] = other, one
        return behind
    return work


def _finding(step, behind, plan):
    """Return the function for a step that finds a number in its table."""
    positions_of, marks, _ = plan
    to, at = positions_of[step[1]], positions_of[step[2]]
    mark, table = marks[step[1]], step[3]

    def work(held, told):
        worth = held[at] if held[at] is None else table[held[at]]
        held[to] = mark if worth is None else worth
        return behind
    return work


def _setting(step, behind, plan):
    """Return the function for a step that sets."""
    to, worth = plan[0][step[1]], step[2]
    worth = plan[1][step[1]] if worth is None else worth

    def work(held, told):
        held[to] = worth
        return behind
    return work


def _skipping_if_empty(step, behind, plan):
    """Return the function for a step that skips others if a place is empty."""
    at, mark, end = plan[0][step[1]], plan[1][step[1]], behind + step[2]

    def work(held, told):
        worth = held[at]
        return end if worth is None or worth == mark else behind
    return work


def _skipping_if_same(step, behind, plan):
    """Return the function for a step that skips others if the same stands at both places."""
    at, other_at, end = plan[0][step[1]], plan[0][step[2]], behind + step[3]

    def work(held, told):
        return end if held[at] == held[other_at] else behind
    return work


def _skipping_if_over(step, behind, plan):
    """Return the function for a step that skips others if one number is greater than another."""
    at, other_at, end = plan[0][step[1]], plan[0][step[2]], behind + step[3]

    def work(held, told):
        one, other = held[at], held[other_at]
        return end if one is not None and other is not None and one > other else behind
    return work


def _telling(step, behind, plan):
    """Return the function for a step that tells a number, or None for an empty place."""
    at, mark = plan[0][step[1]], plan[1][step[1]]

    def work(held, told):
        worth = held[at]
        told.append(None if worth == mark else worth)
        return behind
    return work


def _showing(step, behind, plan):
    """Return the function for a step that tells just what stands at a place."""
    at = plan[0][step[1]]

    def work(held, told):
        told.append(held[at])
        return behind
    return work


def _sum_of(one, other, top):
    """Return the sum of two numbers, but at most the top."""
    return one + other if one + other < top else top


def _left_of(one, other, _):
    """Return what is left of a number without another one, but at least 0."""
    return one - other if one > other else 0


def _greater_of(one, other, _):
    """Return the greater one of two numbers."""
    return one if one > other else other


def _lesser_of(one, other, _):
    """Return the lesser one of two numbers."""
    return one if one < other else other


RECKONING = {"plus": _sum_of, "less": _left_of, "most": _greater_of, "least": _lesser_of}
MAKERS = {"copy": _copying, "turn": _turning, "plus": _reckoning, "less": _reckoning, "most": _reckoning,
          "least": _reckoning, "sort": _sorting, "find": _finding, "set": _setting, "else": _turning_if_empty,
          "lack": _skipping_if_empty, "same": _skipping_if_same, "over": _skipping_if_over, "tell": _telling}
