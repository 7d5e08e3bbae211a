"""Sessions: data that a program goes through row by row, with trials and branches."""

from lackmark.data import MOST_ROWS
from lackmark.errors import BadData, BadPlace, BadRow, NothingDone
from lackmark.marks import REGISTERS
from lackmark.plainly import plain_move, plain_works, written_with
from lackmark.programs import check_program, is_row_for
from lackmark.runs import first_contents
from lackmark.truly import true_move, true_works


class Session:
    """A program, and data that it has gone through, both truly and plainly."""

    def __init__(self, program):
        check_program(program)
        self._program = program
        self._course = Course(Point((), program.begin, first_contents(program), (), (), None), 0, None)

    @property
    def program(self):
        """The program."""
        return self._program

    @property
    def rows(self):
        """The tuple of the rows."""
        return self._course.point.gone

    @property
    def stand(self):
        """The stand after the rows."""
        return self._course.point.truly

    @property
    def plain(self):
        """The contents after the rows."""
        return self._course.point.plainly

    @property
    def told(self):
        """The list of the lists of what was told plainly in each row."""
        return [list(things) for things in self._course.point.said]

    @property
    def events(self):
        """The list of the pairs of the index of a row and an event in it."""
        return list(self._course.point.happened)

    def __len__(self):
        return len(self._course.point.gone)

    def __iadd__(self, other):
        if not is_row_for(self._program, other):
            raise BadRow("not a row for the columns of the program, with numbers up to its top")
        course = self._course
        if len(course.point.gone) >= MOST_ROWS:
            raise BadData("there are 300 rows already")
        course.point = _point_behind(self._program, course.point, other)
        return self

    def __getitem__(self, at):
        if not isinstance(at, str) or at not in self._program.marks:
            raise BadPlace("not one of the registers of the program")
        return self._course.point.truly[REGISTERS.index(at)]

    def __iter__(self):
        raise TypeError("sessions are not iterated over, but their rows are")

    def undo(self):
        """Take back the last row, and return it."""
        course, point = self._course, self._course.point
        if len(point.gone) == course.least:
            raise NothingDone("there is no row, or none in the trial")
        course.point = point.before
        return point.gone[-1]

    def branch(self):
        """Return an independent session with the same program and data, in which all rows can be taken back."""
        other = Session(self._program)
        other._course = Course(self._course.point, 0, None)
        return other

    def trial(self):
        """Return a trial for a with-block, at whose end the data are again as at its beginning."""
        return Trial(self)

    def attempt(self, work):
        """Call a function with the session in a trial, and return what it returns."""
        with self.trial() as inner:
            return work(inner)

    def tried(self, rows):
        """Return the list of the lists of what is told plainly in each row of a list, behind the rows until now."""
        if not isinstance(rows, list) or len(self._course.point.gone) + len(rows) > MOST_ROWS:
            raise BadData("not a list, or too many rows")
        if not all([is_row_for(self._program, row) for row in rows]):
            raise BadData("not a list of rows for the columns of the program, with numbers up to its top")
        works, contents, every = plain_works(self._program), self._course.point.plainly, []
        for row in rows:
            contents, things = plain_move(works, written_with(self._program.marks.columns, row), contents)
            every.append(things)
        return every


class Trial:
    """What brings a session back, at the end of a with-block, to where it was at the beginning."""

    def __init__(self, session):
        self.session = session

    def __enter__(self):
        session = self.session
        course = session._course
        session._course = Course(course.point, len(course.point.gone), course)
        return session

    def __exit__(self, kind, value, trace):
        session = self.session
        session._course = session._course.outer


class Course:
    """Where a session is, how many rows it keeps at least, and the course that it leaves for that of a trial."""

    def __init__(self, point, least, outer):
        self.point = point
        self.least = least
        self.outer = outer


class Point:
    """What there is after some rows, and the point before the last one of them; points never change."""

    def __init__(self, gone, truly, plainly, said, happened, before):
        self.gone = gone
        self.truly = truly
        self.plainly = plainly
        self.said = said
        self.happened = happened
        self.before = before


def _point_behind(program, point, row):
    """Return the point behind a row."""
    stand, _, events = true_move(true_works(program), row, point.truly)
    contents, things = plain_move(plain_works(program), written_with(program.marks.columns, row), point.plainly)
    pairs = tuple([(len(point.gone), event) for event in events])
    return Point(point.gone + (row,), stand, contents, point.said + (tuple(things),), point.happened + pairs, point)
