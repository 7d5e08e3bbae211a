"""Alike programs: whether two programs tell the same, with a closed list of pairs of contents or data as evidence."""

from lackmark.data import Data
from lackmark.errors import Unequal
from lackmark.exploring import PlainMoves, explored, fewest_rows, is_closed, rows_of
from lackmark.kinds import told_apart
from lackmark.programs import are_data_for, check_program
from lackmark.runs import first_contents, is_stand

MOST_PAIRS = 300


class Alike:
    """A closed list of pairs of contents of two programs, behind which both tell the same."""

    def __init__(self, pairs):
        self.pairs = list(pairs)

    def shows(self, one, other):
        """Say whether these pairs show that both programs tell the same in each row of all data."""
        _check_both(one, other)
        if not all([_is_pair(one, other, pair) for pair in self.pairs]) or _first_pair(one, other) not in self.pairs:
            return False
        return is_closed(self.pairs, PairMoves(PlainMoves(one), PlainMoves(other)), _parts)

    def __eq__(self, other):
        return isinstance(other, Alike) and told_apart(self.pairs) == told_apart(other.pairs)


class Parted:
    """Data in the last row of which two programs do not tell the same, and in no row before."""

    def __init__(self, data):
        self.data = data

    def shows(self, one, other):
        """Say whether both programs tell the same in all rows of these data but the last one."""
        _check_both(one, other)
        if not are_data_for(one, self.data) or len(self.data) == 0:
            return False
        told, other_told = one(self.data), other(self.data)
        return told[-1] != other_told[-1] and told[:-1] == other_told[:-1]

    def __eq__(self, other):
        return isinstance(other, Parted) and self.data == other.data


class PairMoves:
    """The moves behind pairs of contents: the pair after a row, and whether both programs tell the same."""

    def __init__(self, moves, other_moves):
        self._moves = moves
        self._other_moves = other_moves

    def behind(self, pair):
        """Return the list of the moves behind a pair."""
        moves, others = self._moves.behind(pair[0]), self._other_moves.behind(pair[1])
        return [((move[0], other[0]), move[1] == other[1]) for move, other in zip(moves, others)]


def compare(one, other):
    """Return an Alike or a Parted for two programs."""
    _check_both(one, other)
    return compared(one, other, PairMoves(PlainMoves(one), PlainMoves(other)))


def are_alike(one, other):
    """Say whether two programs tell the same in each row of all data."""
    return isinstance(compare(one, other), Alike)


def parting_rows(one, other):
    """Return the number of rows of the fewest data by which two programs part, None if they do not."""
    found = compare(one, other)
    return len(found.data) if isinstance(found, Parted) else None


def is_honest(program):
    """Say whether a program tells the same as with own objects for all marks."""
    check_program(program)
    return are_alike(program, ~program)


def compared(one, other, moves):
    """Return an Alike or a Parted for two programs, with the moves behind pairs of contents of them."""
    rows = rows_of(one)
    found = explored(_first_pair(one, other), rows, moves, MOST_PAIRS)
    parting = fewest_rows(found, rows, _parts)
    return Alike(list(found)) if parting is None else Parted(Data(parting))


def _check_both(one, other):
    """Refuse what are not two programs with the same top and as many columns."""
    check_program(one)
    check_program(other)
    if one.top != other.top or len(one.marks.columns) != len(other.marks.columns):
        raise Unequal("not the same top, or not as many columns")


def _first_pair(one, other):
    """Return the pair of the first contents of both."""
    return first_contents(one), first_contents(other)


def _is_pair(one, other, thing):
    """Say whether a thing, whatever it is, is a pair of contents of both."""
    return (isinstance(thing, tuple) and len(thing) == 2 and is_stand(one, thing[0])
            and is_stand(other, thing[1]))


def _parts(move):
    """Say whether both programs do not tell the same in a move."""
    return not move[1]
