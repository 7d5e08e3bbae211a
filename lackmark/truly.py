"""True runs: for each step of a program, a function that does it with what each place has, and tells the events.

What is held is a list of what each place has, a number or None for nothing, at the columns first. A function for a
step changes it, adds to the lists of what is told and of the events, and returns the index of the step that is done
next.
"""

from lackmark.marks import COLUMNS, NO_MARK
from lackmark.plainly import RECKONING, marks_by_place, positions


def true_works(program, *, with_index=False):
    """Return the list of the functions for the steps; if asked for, the index of the step is told beside each thing."""
    marks, works = marks_by_place(program.marks), []
    # What a place has is never this number, so that it is met where there is no mark, and nowhere else.
    marks = {place: NO_MARK if mark is None else mark for place, mark in marks.items()}
    read = {place: mark if place in COLUMNS else NO_MARK for place, mark in marks.items()}
    plan = (positions(marks), read, marks, program.top)
    for index, step in enumerate(program.steps):
        make = _telling_with_index if with_index and step[0] == "tell" else MAKERS[step[0]]
        works.append(make(step, index, plan))
    return works


def true_move(works, row, stand):
    """Return the stand after a row, the list of what is told, and the list of the events."""
    held, told, events, index, many = [*row, *stand], [], [], 0, len(works)
    while index < many:
        work = works[index]
        index = work(held, told, events)
    return tuple(held[len(row):]), told, events


def _getting(step, index, plan):
    """Return the function for a step that copies or turns."""
    positions_of, read, marks, _ = plan
    word, r, p = step
    to, at, met_read, met, behind = positions_of[r], positions_of[p], read[p], marks[r], index + 1
    strays = word == "copy" and marks[r] != marks[p]

    def work(held, told, events):
        worth = held[at]
        if worth == met_read:
            events.append((index, "met", p))
        if strays and worth is None:
            events.append((index, "strayed", p))
        if worth == met:
            events.append((index, "met", r))
        held[to] = worth
        return behind
    return work


def _getting_if_empty(step, index, plan):
    """Return the function for a step that turns if its register is empty."""
    work_if_empty, to, behind = _getting(step, index, plan), plan[0][step[1]], index + 1

    def work(held, told, events):
        return work_if_empty(held, told, events) if held[to] is None else behind
    return work


def _reckoning(step, index, plan):
    """Return the function for a step that reckons with two numbers."""
    positions_of, read, marks, top = plan
    word, r, p = step
    to, at, met_read, met, behind = positions_of[r], positions_of[p], read[p], marks[r], index + 1
    reckon, tells, other_tells = RECKONING[word], marks[r] != NO_MARK, marks[p] != NO_MARK

    def work(held, told, events):
        one, other = held[to], held[at]
        if other == met_read:
            events.append((index, "met", p))
        if one is None or other is None:
            if one is None and tells:
                events.append((index, "reckoned", r))
            if other is None and other_tells:
                events.append((index, "reckoned", p))
            held[to] = None
            return behind
        worth = reckon(one, other, top)
        if worth == met:
            events.append((index, "met", r))
        held[to] = worth
        return behind
    return work


def _sorting(step, index, plan):
    """Return the function for a step that sorts."""
    positions_of, _, marks, _ = plan
    _, r, s = step
    at, other_at, met, other_met, behind = positions_of[r], positions_of[s], marks[r], marks[s], index + 1

    def work(held, told, events):
        one, other = held[at], held[other_at]
        if one is None or other is None:
            if one is None and met != NO_MARK:
                events.append((index, "reckoned", r))
            if other is None and other_met != NO_MARK:
                events.append((index, "reckoned", s))
        elif one > other:
            held[at], held[other_at] = other, one
            if other == met:
                events.append((index, "met", r))
            if one == other_met:
                events.append((index, "met", s))
        return behind
    return work


def _finding(step, index, plan):
    """Return the function for a step that finds a number in its table."""
    positions_of, read, marks, _ = plan
    _, r, p, table = step
    to, at, met_read, met, behind = positions_of[r], positions_of[p], read[p], marks[r], index + 1
    tells = marks[p] != NO_MARK

    def work(held, told, events):
        worth = held[at]
        if worth is None:
            if tells:
                events.append((index, "reckoned", p))
        else:
            if worth == met_read:
                events.append((index, "met", p))
            worth = table[worth]
            if worth == met:
                events.append((index, "met", r))
        held[to] = worth
        return behind
    return work


def _setting(step, index, plan):
    """Return the function for a step that sets."""
    _, r, worth = step
    to, behind, meets = plan[0][r], index + 1, worth == plan[2][r]

    def work(held, told, events):
        if meets:
            events.append((index, "met", r))
        held[to] = worth
        return behind
    return work


def _skipping_if_empty(step, index, plan):
    """Return the function for a step that skips others if a place is empty."""
    _, p, many = step
    at, met_read, behind, end = plan[0][p], plan[1][p], index + 1, index + 1 + many

    def work(held, told, events):
        if held[at] == met_read:
            events.append((index, "met", p))
        return end if held[at] is None else behind
    return work


def _skipping_if_same(step, index, plan):
    """Return the function for a step that skips others if both places have the same."""
    positions_of, read, marks, _ = plan
    _, p, q, many = step
    at, other_at, met_read, other_met = positions_of[p], positions_of[q], read[p], read[q]
    behind, end, unlike = index + 1, index + 1 + many, marks[p] != marks[q]

    def work(held, told, events):
        one, other = held[at], held[other_at]
        if one == met_read:
            events.append((index, "met", p))
        if other == other_met:
            events.append((index, "met", q))
        if unlike and one is None:
            events.append((index, "reckoned", p))
        if unlike and other is None:
            events.append((index, "reckoned", q))
        return end if one == other else behind
    return work


def _skipping_if_over(step, index, plan):
    """Return the function for a step that skips others if one number is greater than another."""
    positions_of, read, marks, _ = plan
    _, p, q, many = step
    at, other_at, met_read, other_met = positions_of[p], positions_of[q], read[p], read[q]
    behind, end, tells, other_tells = index + 1, index + 1 + many, marks[p] != NO_MARK, marks[q] != NO_MARK

    def work(held, told, events):
        one, other = held[at], held[other_at]
        if one == met_read:
            events.append((index, "met", p))
        if other == other_met:
            events.append((index, "met", q))
        if one is not None and other is not None:
            return end if one > other else behind
        if one is None and tells:
            events.append((index, "reckoned", p))
        if other is None and other_tells:
            events.append((index, "reckoned", q))
        return behind
    return work


def _telling(step, index, plan):
    """Return the function for a step that tells."""
    _, p = step
    at, met_read, behind = plan[0][p], plan[1][p], index + 1

    def work(held, told, events):
        if held[at] == met_read:
            events.append((index, "met", p))
        told.append(held[at])
        return behind
    return work


def _telling_with_index(step, index, plan):
    """Return the function for a step that tells, beside it, what its index is."""
    work_before = _telling(step, index, plan)

    def work(held, told, events):
        behind = work_before(held, told, events)
        told[-1] = (index, told[-1])
        return behind
    return work


MAKERS = {"copy": _getting, "turn": _getting, "plus": _reckoning, "less": _reckoning, "most": _reckoning,
          "least": _reckoning, "sort": _sorting, "find": _finding, "set": _setting, "else": _getting_if_empty,
          "lack": _skipping_if_empty, "same": _skipping_if_same, "over": _skipping_if_over, "tell": _telling}
