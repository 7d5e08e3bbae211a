"""Spoiling: which events can happen in a program, with the fewest rows or a closed list of stands as evidence."""

from lackmark.data import Data
from lackmark.errors import BadEvent
from lackmark.exploring import TrueMoves, are_above, explored, fewest_rows, floors_within, is_closed, rows_of
from lackmark.kinds import is_between, is_integer, told_apart
from lackmark.marks import PLACES
from lackmark.programs import are_data_for, check_program
from lackmark.runs import WORDS, is_stand
from lackmark.truly import true_move, true_works

MOST_STANDS = 200


class Never:
    """A closed list of stands, behind none of which an event happens."""

    def __init__(self, stands):
        self.stands = list(stands)

    def shows(self, program, event=None):
        """Say whether these stands show that the event, or without one any event, cannot happen."""
        check_program(program)
        _check_event(program, event)
        if not all([is_stand(program, stand) for stand in self.stands]) or program.begin not in self.stands:
            return False
        return is_closed(self.stands, TrueMoves(program), _counting(event))

    def __eq__(self, other):
        return isinstance(other, Never) and told_apart(self.stands) == told_apart(other.stands)


class Once:
    """The fewest data in the last row of which an event happens, and floors which show that they are the fewest."""

    def __init__(self, data, floors):
        self.data = data
        self.floors = {stand: floors[stand] for stand in floors}

    def shows(self, program, event=None):
        """Say whether the event, or without one any event, happens in the last row, and not with fewer rows."""
        check_program(program)
        _check_event(program, event)
        if not are_data_for(program, self.data) or not are_floors(program, self.floors):
            return False
        if program.begin not in self.floors or self.floors[program.begin] != len(self.data):
            return False
        if not ends_with(program, event, self.data):
            return False
        return are_above(self.floors, TrueMoves(program), _counting(event))

    def __eq__(self, other):
        return (isinstance(other, Once) and self.data == other.data
                and told_apart(self.floors) == told_apart(other.floors))


def happen(program, event=None):
    """Return a Never or an Once for an event, or without one for any event."""
    check_program(program)
    _check_event(program, event)
    found = explored_stands(program)
    rows = fewest_rows(found, rows_of(program), _counting(event))
    if rows is None:
        return Never(list(found))
    return Once(Data(rows), floors_within(found, len(rows)))


def soonest(program, event=None):
    """Return the number of rows of an Once, None for a Never."""
    check_program(program)
    _check_event(program, event)
    rows = fewest_rows(explored_stands(program), rows_of(program), _counting(event))
    return None if rows is None else len(rows)


def events_of(program):
    """Return a dict from all events that can happen, in their order, to the fewest rows for each."""
    check_program(program)
    fewest = {}
    for way, moves in explored_stands(program).values():
        for _, _, events in moves:
            for event in events:
                if event not in fewest:
                    fewest[event] = len(way) + 1
    every = [(index, word, place) for index in range(len(program)) for word in WORDS for place in PLACES]
    return {event: fewest[event] for event in every if event in fewest}


def stands_of(program):
    """Return the list of all stands that come about, those by fewer rows first, then ascending."""
    check_program(program)
    found, by_many = explored_stands(program), {}
    for stand in _every_stand(program):
        if stand in found:
            by_many.setdefault(len(found[stand][0]), []).append(stand)
    return [stand for many in range(len(by_many)) for stand in by_many[many]]


def explored_stands(program):
    """Return what is explored from the first stand of a program."""
    return explored(program.begin, rows_of(program), TrueMoves(program), MOST_STANDS)


def ends_with(program, event, data):
    """Say whether the event, or without one any event, happens in the last row of data."""
    stand, events, works = program.begin, [], true_works(program)
    for row in data.rows:
        stand, _, events = true_move(works, row, stand)
    return len(events) > 0 if event is None else event in events


def are_floors(program, floors):
    """Say whether floors are a dict from stands, or contents, of a program to integers of at least 1."""
    return all([is_stand(program, stand) and is_integer(many) and many >= 1 for stand, many in floors.items()])


def _every_stand(program):
    """Return the list of all stands of a program, ascending."""
    stands, worths = [()], [None] + list(range(program.top + 1))
    for _ in program.begin:
        stands = [stand + (worth,) for stand in stands for worth in worths]
    return stands


def _check_event(program, event):
    """Refuse a thing, whatever it is, that is neither None nor an event of a program."""
    if event is None:
        return
    if not isinstance(event, tuple) or len(event) != 3:
        raise BadEvent("neither None nor a triple")
    index, word, place = event
    if not is_between(index, 0, len(program) - 1):
        raise BadEvent("not the index of a step")
    if not isinstance(word, str) or word not in WORDS:
        raise BadEvent("not the word of an event")
    if place not in program.marks:
        raise BadEvent("not a place of the program")


def _counting(event):
    """Return a function which says whether the event, or without one any event, is in a move."""
    if event is None:
        return lambda move: len(move[2]) > 0
    return lambda move: event in move[2]
