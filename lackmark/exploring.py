"""Exploring: all that comes about by any rows, and whether lists and floors of it are closed.

What comes about is a state: a stand, contents, or a pair of such. A move is what comes of a row behind a state: a tuple
with the state after the row in front. What is called moves here is an object with a method `behind`, which returns the
list of the moves behind a state, one for each row that there is, in order.
"""

from lackmark.data import rows_for
from lackmark.errors import TooLarge
from lackmark.plainly import plain_move, plain_works, written_with
from lackmark.truly import true_move, true_works


class TrueMoves:
    """The moves behind stands of a program: the stand after a row, what is told truly, and the events."""

    def __init__(self, program, *, with_index=False):
        self._works = true_works(program, with_index=with_index)
        self._inputs = rows_of(program)
        self._known = {}

    def behind(self, stand):
        """Return the list of the moves behind a stand; they are reckoned once."""
        if stand not in self._known:
            self._known[stand] = [true_move(self._works, row, stand) for row in self._inputs]
        return self._known[stand]


class PlainMoves:
    """The moves behind contents of a program: the contents after a row, and what is told plainly."""

    def __init__(self, program):
        self._works = plain_works(program)
        self._inputs = [written_with(program.marks.columns, row) for row in rows_of(program)]
        self._known = {}

    def behind(self, contents):
        """Return the list of the moves behind contents; they are reckoned once."""
        if contents not in self._known:
            self._known[contents] = [plain_move(self._works, row, contents) for row in self._inputs]
        return self._known[contents]


def rows_of(program):
    """Return the list of all rows for a program."""
    return rows_for(len(program.marks.columns), program.top)


def explored(first, rows, moves, most):
    """Return what comes about from the first state, as a dict in the order of the fewest rows for each.

    The dict goes to pairs: the tuple of the fewest rows for a state, and the list of the moves behind it.
    """
    ways, queue, found = {first: ()}, [first], {}
    while len(found) < len(queue):
        state = queue[len(found)]
        way, behind = ways[state], moves.behind(state)
        found[state] = (way, behind)
        for row, move in zip(rows, behind):
            if move[0] not in ways:
                ways[move[0]] = way + (row,)
                queue.append(move[0])
        if len(queue) > most:
            raise TooLarge("more comes about than is looked through")
    return found


def fewest_rows(found, rows, counts):
    """Return the fewest rows, of what is explored, the last of which comes with a move that counts, or None."""
    for way, behind in found.values():
        for row, move in zip(rows, behind):
            if counts(move):
                return way + (row,)
    return None


def floors_within(found, many):
    """Return, for what comes about by fewer than so many rows, how many of them are still needed there at least."""
    return {state: many - len(pair[0]) for state, pair in found.items() if len(pair[0]) < many}


def is_closed(states, moves, counts):
    """Say whether no move that counts is behind any of these states, and each state after one of them is listed."""
    listed = {state: True for state in states}
    for state in listed:
        for move in moves.behind(state):
            if move[0] not in listed or counts(move):
                return False
    return True


def are_above(floors, moves, counts):
    """Say whether no move makes any of the floors, a dict from states to integers, too great."""
    for state, many in floors.items():
        if many >= 2:
            for move in moves.behind(state):
                if floors.get(move[0], 0) < many - 1 or counts(move):
                    return False
    return True
