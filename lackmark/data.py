"""Data: rows of numbers and of nothing, one behind the other."""

from lackmark.errors import BadData, BadNumber, BadRow
from lackmark.kinds import are_numbers_or_none, is_between, is_integer

MOST_ROWS = 300


class Data:
    """Up to 300 rows for the same one or two columns; data never change."""

    def __init__(self, rows, *, width=1):
        if not _are_rows(rows):
            raise BadData("not up to 300 rows for the same columns")
        if len(rows) == 0 and not is_between(width, 1, 2):
            raise BadData("no rows, and not one or two columns")
        self._rows = tuple(rows)
        self._width = width if len(rows) == 0 else len(rows[0])

    @classmethod
    def of(cls, *rows):
        """Return the data with one or more rows."""
        if len(rows) == 0:
            raise BadData("not one or more rows")
        return cls(rows)

    @property
    def rows(self):
        """The tuple of the rows."""
        return self._rows

    @property
    def width(self):
        """The number of columns."""
        return self._width

    def __add__(self, other):
        _check_same_width(self, other)
        return Data(self._rows + other.rows, width=self._width)

    def __lshift__(self, other):
        if not is_row(other, self._width):
            raise BadRow("not a row for as many columns")
        return Data(self._rows + (other,), width=self._width)

    def __mul__(self, other):
        if not is_integer(other) or other < 0:
            raise BadData("not an integer from 0 on")
        if len(self._rows) * other > MOST_ROWS:
            raise BadData("too many rows")
        # Python refuses to repeat a tuple, even an empty one, very many times.
        rows = self._rows * other if len(self._rows) > 0 else ()
        return Data(rows, width=self._width)

    def __rmul__(self, other):
        return self * other

    def __rshift__(self, other):
        if not is_between(other, 0, len(self._rows)):
            raise BadNumber("not an integer from 0 to the number of rows")
        return Data(self._rows[other:], width=self._width)

    def __and__(self, other):
        _check_same_width(self, other)
        many = _count_common(self._rows, other.rows)
        return Data(self._rows[:many], width=self._width)

    def __le__(self, other):
        check_data(other)
        return _begins(self, other)

    def __lt__(self, other):
        check_data(other)
        return _begins(self, other) and len(self._rows) < len(other.rows)

    def __sub__(self, other):
        check_data(other)
        if not _begins(other, self):
            raise BadData("not a beginning of these data")
        return Data(self._rows[len(other.rows):], width=self._width)

    def __len__(self):
        return len(self._rows)

    def __abs__(self):
        return sum([row.count(None) for row in self._rows])

    def __getitem__(self, at):
        if not is_between(at, 0, len(self._rows) - 1):
            raise BadNumber("not the index of a row")
        return self._rows[at]

    def __contains__(self, x):
        return is_row(x, self._width) and x in self._rows

    def __iter__(self):
        raise TypeError("data are not iterated over, but their rows are")

    def __eq__(self, other):
        return isinstance(other, Data) and self._width == other._width and self._rows == other._rows


def rows_for(width, top):
    """Return the list of all rows of numbers up to the top and nothing, ascending."""
    if not is_between(width, 1, 2):
        raise BadNumber("not one or two columns")
    if not is_between(top, 1, 4):
        raise BadNumber("not a top from 1 to 4")
    worths = [None] + list(range(top + 1))
    if width == 1:
        return [(worth,) for worth in worths]
    return [(worth, behind) for worth in worths for behind in worths]


def is_row(thing, width):
    """Say whether a thing, whatever it is, is a row for so many columns."""
    return are_numbers_or_none(thing, width)


def check_data(thing):
    """Refuse a thing, whatever it is, that is not data."""
    if not isinstance(thing, Data):
        raise BadData("not data")


def _are_rows(thing):
    """Say whether a thing is a list or tuple of up to 300 rows for the same columns."""
    if not isinstance(thing, (list, tuple)) or len(thing) > MOST_ROWS:
        return False
    if len(thing) == 0:
        return True
    width = len(thing[0]) if isinstance(thing[0], tuple) else 0
    return is_between(width, 1, 2) and all([is_row(row, width) for row in thing])


def _check_same_width(one, other):
    """Refuse another thing that is not data for as many columns."""
    check_data(other)
    if one.width != other.width:
        raise BadData("not as many columns")


def _begins(one, other):
    """Say whether one of two data is a beginning of the other one, of as many columns."""
    return one.width == other.width and other.rows[:len(one.rows)] == one.rows


def _count_common(rows, others):
    """Return how many rows both have in common at the beginning."""
    many = 0
    while many < len(rows) and many < len(others) and rows[many] == others[many]:
        many = many + 1
    return many
