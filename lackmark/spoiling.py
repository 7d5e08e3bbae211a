"""Spoiling: which events can happen in a program, with the fewest rows or a closed list of stands as evidence."""

from lackmark.data import Data, rows_for
from lackmark.errors import BadEvent, TooLarge
from lackmark.kinds import is_between, is_integer, told_apart
from lackmark.marks import PLACES
from lackmark.programs import are_data_for, check_program
from lackmark.runs import WORDS, is_stand, true_row

MOST_STANDS = 200


class Never:
    """A closed list of stands, behind none of which an event happens."""

    def __init__(self, stands):
        self.stands = list(stands)

    def shows(self, program, event=None):
        """Say whether these stands show that the event, or without one any event, cannot happen."""
        check_program(program)
        _check_event(program, event)
        if not all([is_stand(program, stand) for stand in self.stands]):
            return False
        listed = {stand: True for stand in self.stands}
        if program.begin not in listed:
            return False
        return all([_stays_within(program, event, stand, listed) for stand in listed])

    def __eq__(self, other):
        return isinstance(other, Never) and told_apart(self.stands) == told_apart(other.stands)


class Once:
    """The fewest data in the last row of which an event happens, and floors which show that they are the fewest."""

    def __init__(self, data, floors):
        self.data = data
        self.floors = {stand: floors[stand] for stand in floors}

    def shows(self, program, event=None):
        """Say whether the event, or without one any event, happens in the last row, and not with fewer rows."""
        check_program(program)
        _check_event(program, event)
        if not are_data_for(program, self.data) or not _are_floors(program, self.floors):
            return False
        if program.begin not in self.floors or self.floors[program.begin] != len(self.data):
            return False
        if not _ends_with(program, event, self.data):
            return False
        return all([_is_above(program, event, stand, self.floors) for stand in self.floors])

    def __eq__(self, other):
        return (isinstance(other, Once) and self.data == other.data
                and told_apart(self.floors) == told_apart(other.floors))


def happen(program, event=None):
    """Return a Never or an Once for an event, or without one for any event."""
    check_program(program)
    _check_event(program, event)
    found = _explored(program)
    rows = fewest_rows(found, lambda events: _counts(event, events))
    if rows is None:
        return Never(list(found))
    return Once(Data(rows), floors_within(found, len(rows)))


def soonest(program, event=None):
    """Return the number of rows of an Once, None for a Never."""
    found = happen(program, event)
    return len(found.data) if isinstance(found, Once) else None


def events_of(program):
    """Return a dict from all events that can happen, in their order, to the fewest rows for each."""
    check_program(program)
    fewest = {}
    for way, moves in _explored(program).values():
        for _, events in moves:
            for event in events:
                fewest.setdefault(event, len(way) + 1)
    every = [(index, word, place) for index in range(len(program)) for word in WORDS for place in PLACES]
    return {event: fewest[event] for event in every if event in fewest}


def stands_of(program):
    """Return the list of all stands that come about, those by fewer rows first, then ascending."""
    check_program(program)
    found, by_many = _explored(program), {}
    for stand in _every_stand(program):
        if stand in found:
            by_many.setdefault(len(found[stand][0]), []).append(stand)
    return [stand for many in range(len(by_many)) for stand in by_many[many]]


def explored(first, rows, move, most):
    """Return what comes about from the first one by any rows, as a dict in the order of the fewest rows for each.

    A move with one of them and a row returns the one after the row, and what is seen in this row. The dict goes to
    pairs: the tuple of the fewest rows for each, and the list of the pairs of a row and what is seen in it then.
    """
    found, queue, at = {first: ((), [])}, [first], 0
    while at < len(queue):
        way, moves = found[queue[at]]
        for row in rows:
            after, seen = move(queue[at], row)
            moves.append((row, seen))
            if after not in found:
                found[after] = (way + (row,), [])
                queue.append(after)
        if len(queue) > most:
            raise TooLarge("more comes about than is looked through")
        at = at + 1
    return found


def fewest_rows(found, counts):
    """Return the fewest rows, of what is explored, in the last of which something is seen that counts, or None."""
    for way, moves in found.values():
        for row, seen in moves:
            if counts(seen):
                return way + (row,)
    return None


def floors_within(found, many):
    """Return, for what comes about by fewer than so many rows, how many of them are still needed there at least."""
    return {state: many - len(pair[0]) for state, pair in found.items() if len(pair[0]) < many}


def _explored(program):
    """Return what is explored from the first stand of a program: stands, and the events in each row."""
    return explored(program.begin, _rows_of(program), lambda stand, row: _moved(program, stand, row), MOST_STANDS)


def _moved(program, stand, row):
    """Return the stand after a row, and the events in it."""
    after, _, events = true_row(program, stand, row)
    return after, events


def _rows_of(program):
    """Return the list of all rows for a program."""
    return rows_for(len(program.marks.columns), program.top)


def _every_stand(program):
    """Return the list of all stands of a program, ascending."""
    stands, worths = [()], [None] + list(range(program.top + 1))
    for _ in program.begin:
        stands = [stand + (worth,) for stand in stands for worth in worths]
    return stands


def _check_event(program, event):
    """Refuse a thing, whatever it is, that is neither None nor an event of a program."""
    if event is None:
        return
    if not isinstance(event, tuple) or len(event) != 3:
        raise BadEvent("neither None nor a triple")
    index, word, place = event
    if not is_between(index, 0, len(program) - 1):
        raise BadEvent("not the index of a step")
    if not isinstance(word, str) or word not in WORDS:
        raise BadEvent("not the word of an event")
    if place not in program.marks:
        raise BadEvent("not a place of the program")


def _counts(event, events):
    """Say whether an event is one of these, or without one whether there are some."""
    return len(events) > 0 if event is None else event in events


def _stays_within(program, event, stand, listed):
    """Say whether, behind a stand, the event does not happen in any row, and each stand after one is listed."""
    for row in _rows_of(program):
        after, events = _moved(program, stand, row)
        if _counts(event, events) or after not in listed:
            return False
    return True


def _are_floors(program, floors):
    """Say whether floors are a dict from stands of a program to integers of at least 1."""
    return all([is_stand(program, stand) and is_integer(many) and many >= 1 for stand, many in floors.items()])


def _ends_with(program, event, data):
    """Say whether the event happens in the last row of data."""
    stand, events = program.begin, []
    for row in data.rows:
        stand, events = _moved(program, stand, row)
    return _counts(event, events)


def _is_above(program, event, stand, floors):
    """Say whether no row behind a stand makes its floor too great."""
    if floors[stand] < 2:
        return True
    for row in _rows_of(program):
        after, events = _moved(program, stand, row)
        if _counts(event, events) or after not in floors or floors[after] < floors[stand] - 1:
            return False
    return True
