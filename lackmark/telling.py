"""Telling: whether a wish can be told, with the fewest rows or a closed list of contents as evidence."""

from lackmark.data import Data
from lackmark.errors import BadWish
from lackmark.exploring import PlainMoves, are_above, explored, fewest_rows, floors_within, is_closed, rows_of
from lackmark.kinds import are_numbers_or_none, told_apart
from lackmark.programs import are_data_for, check_program
from lackmark.runs import first_contents, is_stand
from lackmark.spoiling import are_floors

MOST_CONTENTS = 200
MOST_THINGS = 8


class Told:
    """The fewest data in the last row of which a wish is told, and floors which show that they are the fewest."""

    def __init__(self, data, floors):
        self.data = data
        self.floors = {contents: floors[contents] for contents in floors}

    def shows(self, program, wish):
        """Say whether a wish is told in the last row of these data, and not with fewer rows."""
        check_program(program)
        _check_wish(program, wish)
        if not are_data_for(program, self.data) or not are_floors(program, self.floors):
            return False
        # Floors are at least 1, so that there is a last row if they fit.
        first = first_contents(program)
        if first not in self.floors or self.floors[first] != len(self.data):
            return False
        told = program(self.data)
        return told[-1] == list(wish) and are_above(self.floors, PlainMoves(program), _counting(wish))

    def __eq__(self, other):
        return (isinstance(other, Told) and self.data == other.data
                and told_apart(self.floors) == told_apart(other.floors))


class Untold:
    """A closed list of contents, behind none of which a wish is told."""

    def __init__(self, contents):
        self.contents = list(contents)

    def shows(self, program, wish):
        """Say whether these contents show that a wish cannot be told."""
        check_program(program)
        _check_wish(program, wish)
        if not all([is_stand(program, contents) for contents in self.contents]):
            return False
        if first_contents(program) not in self.contents:
            return False
        return is_closed(self.contents, PlainMoves(program), _counting(wish))

    def __eq__(self, other):
        return isinstance(other, Untold) and told_apart(self.contents) == told_apart(other.contents)


def tell(program, wish):
    """Return a Told or an Untold for a wish."""
    check_program(program)
    _check_wish(program, wish)
    rows = rows_of(program)
    found = explored(first_contents(program), rows, PlainMoves(program), MOST_CONTENTS)
    fewest = fewest_rows(found, rows, _counting(wish))
    return Untold(list(found)) if fewest is None else Told(Data(fewest), floors_within(found, len(fewest)))


def soonest_told(program, wish):
    """Return the number of rows of a Told, None for an Untold."""
    found = tell(program, wish)
    return len(found.data) if isinstance(found, Told) else None


def _check_wish(program, thing):
    """Refuse a thing, whatever it is, that is not a wish for a program."""
    if not isinstance(thing, tuple) or len(thing) > MOST_THINGS:
        raise BadWish("not a tuple of up to eight things")
    if not are_numbers_or_none(thing, len(thing), program.top):
        raise BadWish("not numbers up to the top, or None")


def _counting(wish):
    """Return a function which says whether a wish is what is told in a move."""
    due = list(wish)
    return lambda move: move[1] == due
