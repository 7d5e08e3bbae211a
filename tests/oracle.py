"""The document's words on programs, runs and events, followed once more, plainly and apart from the package."""

import itertools
import random

from lackmark.marks import Marks
from lackmark.programs import Program

COLUMNS = [0, 1]
REGISTERS = ["a", "b", "c"]
REG, PLACE, VALUE, TABLE, SKIP = "register", "place", "value", "table", "skip"
FORMS = {"copy": [REG, PLACE], "turn": [REG, PLACE], "plus": [REG, PLACE], "less": [REG, PLACE],
         "most": [REG, PLACE], "least": [REG, PLACE], "sort": [REG, REG], "find": [REG, PLACE, TABLE],
         "set": [REG, VALUE], "else": [REG, PLACE], "lack": [PLACE, SKIP], "same": [PLACE, PLACE, SKIP],
         "over": [PLACE, PLACE, SKIP], "tell": [PLACE]}
SUMS = {"plus": lambda one, other, top: min(top, one + other), "less": lambda one, other, top: max(0, one - other),
        "most": lambda one, other, top: max(one, other), "least": lambda one, other, top: min(one, other)}


def true_run(program, stand, row, tells=None):
    """Return what each register has after a row, what is told truly, and the events, as [5] and [7] say.

    For each thing that is told, the index of the step and the place are added to a list of tells.
    """
    mark = {place: program.marks[place] for place in places_of(program)}
    has = dict(zip(COLUMNS, row)) | dict(zip(REGISTERS, stand))
    told, events, index = [], [], 0

    def happens(word, place):
        events.append((index, word, place))

    def read(*places):
        for place in places:
            if place in COLUMNS and has[place] is not None and has[place] == mark[place]:
                happens("met", place)

    def reckon(*places):
        for place in places:
            if has[place] is None and mark[place] is not None:
                happens("reckoned", place)
        return all(has[place] is not None for place in places)

    def get(place, number):
        has[place] = number
        if number is not None and number == mark[place]:
            happens("met", place)

    while index < len(program.steps):
        word, *parts = program.steps[index]
        skipped = 0
        if word in ("copy", "turn"):
            r, p = parts
            read(p)
            if word == "copy" and has[p] is None and mark[r] != mark[p]:
                happens("strayed", p)
            get(r, has[p])
        elif word in SUMS:
            r, p = parts
            read(p)
            get(r, SUMS[word](has[r], has[p], program.top) if reckon(r, p) else None)
        elif word == "sort":
            r, s = parts
            if reckon(r, s) and has[r] > has[s]:
                low, high = has[s], has[r]
                get(r, low)
                get(s, high)
        elif word == "find":
            r, p, table = parts
            read(p)
            get(r, table[has[p]] if reckon(p) else None)
        elif word == "set":
            get(*parts)
        elif word == "else":
            r, p = parts
            if has[r] is None:
                read(p)
                get(r, has[p])
        elif word == "lack":
            p, n = parts
            read(p)
            skipped = n if has[p] is None else 0
        elif word == "same":
            p, q, n = parts
            read(p, q)
            for place in (p, q):
                if has[place] is None and mark[p] != mark[q]:
                    happens("reckoned", place)
            skipped = n if has[p] == has[q] else 0
        elif word == "over":
            p, q, n = parts
            read(p, q)
            skipped = n if reckon(p, q) and has[p] > has[q] else 0
        elif word == "tell":
            read(*parts)
            told.append(has[parts[0]])
            if tells is not None:
                tells.append((index, parts[0]))
        index += 1 + skipped
    return tuple(has[place] for place in REGISTERS[:len(stand)]), told, events


def plain_run(program, contents, row, stands=None):
    """Return what stands at each register after a row, and what is told plainly, as [6] says.

    What stands at each place that is told is added to a list of stands.
    """
    mark = {place: program.marks[place] for place in places_of(program)}
    at = {place: mark[place] if number is None else number for place, number in zip(COLUMNS, row)}
    at |= dict(zip(REGISTERS, contents))
    told, index = [], 0

    def empty(place):
        return at[place] is None or at[place] == mark[place]

    def write(place, number):
        at[place] = mark[place] if number is None else number

    def own_object(*places):
        return any(at[place] is None for place in places)

    while index < len(program.steps):
        word, *parts = program.steps[index]
        skipped = 0
        if word == "copy":
            at[parts[0]] = at[parts[1]]
        elif word == "turn" or (word == "else" and empty(parts[0])):
            write(parts[0], None if empty(parts[1]) else at[parts[1]])
        elif word in SUMS:
            r, p = parts
            write(r, None if own_object(r, p) else SUMS[word](at[r], at[p], program.top))
        elif word == "sort":
            r, s = parts
            if not own_object(r, s) and at[r] > at[s]:
                at[r], at[s] = at[s], at[r]
        elif word == "find":
            r, p, table = parts
            write(r, None if own_object(p) else table[at[p]])
        elif word == "set":
            write(*parts)
        elif word == "lack":
            skipped = parts[1] if empty(parts[0]) else 0
        elif word == "same":
            p, q, n = parts
            skipped = n if at[p] == at[q] else 0
        elif word == "over":
            p, q, n = parts
            skipped = n if not own_object(p, q) and at[p] > at[q] else 0
        elif word == "tell":
            told.append(None if empty(parts[0]) else at[parts[0]])
            if stands is not None:
                stands.append(at[parts[0]])
        index += 1 + skipped
    return tuple(at[place] for place in REGISTERS[:len(contents)]), told


def places_of(program):
    return COLUMNS[:len(program.marks.columns)] + REGISTERS[:len(program.marks.registers)]


def worths(top):
    return [None] + list(range(top + 1))


def all_rows(program):
    return list(itertools.product(worths(program.top), repeat=len(program.marks.columns)))


def all_stands(program):
    return list(itertools.product(worths(program.top), repeat=len(program.begin)))


def all_events(program):
    """Return all events that BadEvent does not refuse, in the order of the document."""
    return list(itertools.product(range(len(program.steps)), ["met", "reckoned", "strayed"], places_of(program)))


def depths(program):
    """Return a dict from each stand that comes about to the fewest rows for it."""
    found, level, many = {program.begin: 0}, [program.begin], 0
    while level:
        many += 1
        after = {true_run(program, stand, row)[0] for stand in level for row in all_rows(program)}
        level = [stand for stand in after if stand not in found]
        found.update({stand: many for stand in level})
    return found


def fewest(program):
    """Return a dict from each event that can happen, and from None for any, to the fewest rows for it."""
    found = {}
    for stand, many in depths(program).items():
        for row in all_rows(program):
            for event in true_run(program, stand, row)[2]:
                for key in (event, None):
                    found[key] = min(many + 1, found.get(key, many + 1))
    return found


def random_program(chance, *, top=None, columns=None, registers=None, many=None):
    """Return a program that a random.Random chooses, but for what is given."""
    top = top or chance.randint(1, 4)
    columns, registers = columns or chance.randint(1, 2), registers or chance.randint(1, 3)
    marks = Marks(random_worths(chance, top, columns), random_worths(chance, top, registers))
    begin = random_worths(chance, top, registers)
    begin = tuple(None if worth == mark else worth for worth, mark in zip(begin, marks.registers))
    places = COLUMNS[:columns] + REGISTERS[:registers]
    many = many or chance.randint(1, 8)
    steps = [random_step(chance, top, places, many - 1 - index) for index in range(many)]
    return Program(top, marks, begin, tuple(steps))


def random_worths(chance, top, many):
    return tuple(chance.choice(worths(top)) for _ in range(many))


def random_step(chance, top, places, behind):
    word = chance.choice(list(FORMS))
    step = (word,) + tuple(random_part(chance, kind, top, places, behind) for kind in FORMS[word])
    if word in ("sort", "same", "over") and step[1] == step[2]:
        return random_step(chance, top, places, behind)
    return step


def random_part(chance, kind, top, places, behind):
    if kind == REG:
        return chance.choice([place for place in places if place in REGISTERS])
    if kind == PLACE:
        return chance.choice(places)
    if kind == VALUE:
        return chance.choice(worths(top))
    if kind == TABLE:
        return random_worths(chance, top, top + 1)
    return chance.randint(0, behind)


def chances(many):
    """Return so many sources of choices, the same ones at each run of the tests."""
    return [random.Random(seed) for seed in range(many)]


def counts(event, events):
    return event in events if event is not None else events != []


def never_holds(program, event, stands):
    """Say whether a list of stands of a program is as [8] says of a Never."""
    if program.begin not in stands:
        return False
    for stand, row in itertools.product(stands, all_rows(program)):
        after, _, events = true_run(program, stand, row)
        if counts(event, events) or after not in stands:
            return False
    return True


def once_holds(program, event, rows, floors):
    """Say whether rows of a program and a dict from stands of it to integers are as [8] says of an Once."""
    if any(many < 1 for many in floors.values()) or floors.get(program.begin) != len(rows):
        return False
    stand, events = program.begin, []
    for row in rows:
        stand, _, events = true_run(program, stand, row)
    if not counts(event, events):
        return False
    for stand, row in itertools.product([stand for stand in floors if floors[stand] >= 2], all_rows(program)):
        after, _, events = true_run(program, stand, row)
        if counts(event, events) or floors.get(after, 0) < floors[stand] - 1:
            return False
    return True
