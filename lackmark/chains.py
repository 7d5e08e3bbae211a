"""Chains: a program that writes a file, and another one that reads it, and whether a mark ever goes wrong in them."""

from lackmark.data import Data
from lackmark.errors import BadChain, BadRow, BadStand, Unequal
from lackmark.exploring import TrueMoves, explored, fewest_rows, is_closed, rows_of
from lackmark.kinds import told_apart
from lackmark.plainly import plain_move, plain_works, written_with
from lackmark.programs import are_data_for, check_data_for, check_program, is_row_for
from lackmark.runs import first_contents, is_stand
from lackmark.truly import true_move, true_works

MOST_PAIRS = 300


class Chain:
    """A writer and a reader with one top; the reader goes through what the writer tells. Chains never change."""

    def __init__(self, writer, reader):
        check_program(writer)
        check_program(reader)
        if writer.top != reader.top:
            raise Unequal("not one top")
        self._writer = writer
        self._reader = reader

    @property
    def writer(self):
        """The program that writes the file."""
        return self._writer

    @property
    def reader(self):
        """The program that reads the file."""
        return self._reader

    def __call__(self, data):
        """Return the list of the lists of what the reader tells plainly in each row of the file."""
        reader = self._reader
        return reader(Data(self.file(data), width=len(reader.marks.columns)))

    def file(self, data):
        """Return the list of the rows of the file, with None for empty fields."""
        check_data_for(self._writer, data)
        works, contents, rows = plain_works(self._writer, as_stands=True), first_contents(self._writer), []
        for row in data.rows:
            contents, told = plain_move(works, written_with(self._writer.marks.columns, row), contents)
            if len(told) == len(self._reader.marks.columns):
                rows.append(tuple(told))
        return rows

    def __eq__(self, other):
        return isinstance(other, Chain) and self._writer == other._writer and self._reader == other._reader


class Clean:
    """A closed list of pairs of stands of the writer and the reader, behind which no event happens."""

    def __init__(self, pairs):
        self.pairs = list(pairs)

    def shows(self, chain):
        """Say whether these pairs show that no event can happen in a chain."""
        _check_chain(chain)
        if not all([_are_stands(chain, pair) for pair in self.pairs]) or _first_stands(chain) not in self.pairs:
            return False
        return is_closed(self.pairs, ChainMoves(chain), _has_events)

    def __eq__(self, other):
        return isinstance(other, Clean) and told_apart(self.pairs) == told_apart(other.pairs)


class Spoiled:
    """Data in the last row of which an event of a chain happens, and in no row before."""

    def __init__(self, data):
        self.data = data

    def shows(self, chain):
        """Say whether an event of a chain happens in the last row of these data, and in no row before."""
        _check_chain(chain)
        if not are_data_for(chain.writer, self.data):
            return False
        many = [len(events) for events in _events_by_row(chain, self.data)]
        return len(many) > 0 and many[-1] > 0 and sum(many[:-1]) == 0

    def __eq__(self, other):
        return isinstance(other, Spoiled) and self.data == other.data


class ChainMoves:
    """The moves behind pairs of stands of a chain: the pair after a row, what the reader tells, and the events."""

    def __init__(self, chain):
        self._chain = chain
        self._moves = TrueMoves(chain.writer, with_index=True)
        self._works = true_works(chain.reader)
        self._filed = {}
        self._gone = {}

    def behind(self, stands):
        """Return the list of the moves behind a pair of stands; what is written and read is reckoned once."""
        stand, other_stand = stands
        if stand not in self._filed:
            self._filed[stand] = [_written(self._chain, move) for move in self._moves.behind(stand)]
        return [_joined(written, self._read_once(written[1], other_stand)) for written in self._filed[stand]]

    def _read_once(self, row, stand):
        """Return what comes of a row of the file, or of none, behind a stand of the reader."""
        if (row, stand) not in self._gone:
            self._gone[(row, stand)] = _read(self._works, row, stand)
        return self._gone[(row, stand)]


def chain_after(chain, stands, row):
    """Return the pair of stands after a row of the writer, what the reader tells truly or None, and the events."""
    _check_chain(chain)
    if not _are_stands(chain, stands):
        raise BadStand("not a pair of a stand of the writer and one of the reader")
    if not is_row_for(chain.writer, row):
        raise BadRow("not a row for the columns of the writer, with numbers up to its top")
    return _moved(chain, true_works(chain.writer, with_index=True), true_works(chain.reader), stands, row)


def watch(chain):
    """Return a Clean or a Spoiled for a chain."""
    _check_chain(chain)
    rows = rows_of(chain.writer)
    found = explored(_first_stands(chain), rows, ChainMoves(chain), MOST_PAIRS)
    spoiling = fewest_rows(found, rows, _has_events)
    return Clean(list(found)) if spoiling is None else Spoiled(Data(spoiling))


def spoiled_after(chain):
    """Return the least number of rows of a Spoiled, None for a Clean."""
    found = watch(chain)
    return len(found.data) if isinstance(found, Spoiled) else None


def _check_chain(thing):
    """Refuse a thing, whatever it is, that is not a chain."""
    if not isinstance(thing, Chain):
        raise BadChain("not a chain")


def _first_stands(chain):
    """Return the pair of the first stands of the writer and the reader."""
    return chain.writer.begin, chain.reader.begin


def _are_stands(chain, thing):
    """Say whether a thing, whatever it is, is a pair of a stand of the writer and one of the reader."""
    return (isinstance(thing, tuple) and len(thing) == 2 and is_stand(chain.writer, thing[0])
            and is_stand(chain.reader, thing[1]))


def _has_events(move):
    """Say whether an event happens in a move."""
    return len(move[2]) > 0


def _events_by_row(chain, data):
    """Return the list of the lists of the events in each row of data."""
    writing, reading = true_works(chain.writer, with_index=True), true_works(chain.reader)
    stands, every = _first_stands(chain), []
    for row in data.rows:
        stands, _, events = _moved(chain, writing, reading, stands, row)
        every.append(events)
    return every


def _moved(chain, writing, reading, stands, row):
    """Return the pair of stands after a row of the writer, what the reader tells or None, and the events."""
    written = _written(chain, true_move(writing, row, stands[0]))
    return _joined(written, _read(reading, written[1], stands[1]))


def _written(chain, move):
    """Return, for a move of the writer, the stand after it, the row of the file or None, and the events until then."""
    after, told, events = move
    events = [("writer", event) for event in events]
    columns = chain.reader.marks.columns
    if len(told) != len(columns):
        return after, None, events
    for (index, worth), column in zip(told, columns):
        place = chain.writer[index][1]
        mark = chain.writer.marks[place]
        if worth is None and mark is not None and mark != column:
            events.append(("file", (index, "strayed", place)))
    return after, tuple([worth for _, worth in told]), events


def _read(works, row, stand):
    """Return the stand of the reader after a row of the file, or after none, what it tells or None, and the events."""
    if row is None:
        return stand, None, []
    after, told, events = true_move(works, row, stand)
    return after, told, [("reader", event) for event in events]


def _joined(written, read):
    """Return the move of a chain for what comes of a row in the writer, and then in the reader."""
    return (written[0], read[0]), read[1], written[2] + read[2]
