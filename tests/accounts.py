"""The document's words on [9] to [13], followed once more, apart from the package, with the runs of the oracle."""

import itertools

from lackmark.marks import Marks
from lackmark.programs import Program
from tests import oracle

OPERANDS = {"plus": (1, 2), "less": (1, 2), "most": (1, 2), "least": (1, 2), "sort": (1, 2), "find": (2,),
            "over": (1, 2)}


def first_contents(program):
    marks = program.marks.registers
    return tuple(mark if worth is None else worth for worth, mark in zip(program.begin, marks))


def fewest_rows_by(first, rows, move):
    """Return a dict from all states that come about to the fewest rows for each; a move returns a state and a seen."""
    found, level, many = {first: 0}, [first], 0
    while level:
        many += 1
        behind = [move(state, row)[0] for state in level for row in rows]
        level = [state for state in dict.fromkeys(behind) if state not in found]
        found.update({state: many for state in level})
    return found


def fewest_by(first, rows, move):
    """Return the fewest rows in the last of which something is seen, None if it never is."""
    found = fewest_rows_by(first, rows, move)
    seen = [many + 1 for state, many in found.items() for row in rows if move(state, row)[1]]
    return min(seen) if seen else None


def never_by(states, first, rows, move):
    """Say whether nothing is seen behind any of these states, and all states after them are among them."""
    moves = [move(state, row) for state in states for row in rows]
    return first in states and all(state in states and not seen for state, seen in moves)


def only_last_by(first, some, move):
    """Say whether something is seen in the last one of some rows, and in no other one."""
    state, every = first, []
    for row in some:
        state, seen = move(state, row)
        every.append(bool(seen))
    return bool(every) and every == [False] * (len(every) - 1) + [True]


def floors_by(floors, first, some, rows, move):
    """Say whether something is seen in the last one of some rows, and floors show that they are as few as possible."""
    if floors.get(first) != len(some) or any(many < 1 for many in floors.values()) or not some:
        return False
    state, seen = first, False
    for row in some:
        state, seen = move(state, row)
    if not seen:
        return False
    for state in [state for state in floors if floors[state] >= 2]:
        for row in rows:
            behind, seen = move(state, row)
            if seen or floors.get(behind, 0) < floors[state] - 1:
                return False
    return True


# Alike programs, [9]

def pair_move(one, other):
    """Return the move of pairs of contents; what is seen is that the programs do not tell the same."""
    def move(pair, row):
        contents, told = oracle.plain_run(one, pair[0], row)
        other_contents, other_told = oracle.plain_run(other, pair[1], row)
        return (contents, other_contents), told != other_told
    return move


def first_pair(one, other):
    return first_contents(one), first_contents(other)


def with_own_objects(program):
    marks = Marks((None,) * len(program.marks.columns), (None,) * len(program.marks.registers))
    return Program(program.top, marks, program.begin, program.steps)


def alike_twin(chance, program):
    """Return a program with the same top and as many columns; often one that is nearly the same."""
    kind = chance.randint(0, 3)
    if kind == 0:
        return oracle.random_program(chance, top=program.top, columns=len(program.marks.columns))
    if kind == 1:
        return with_own_objects(program)
    if kind == 2:
        columns = oracle.random_worths(chance, program.top, len(program.marks.columns))
        return Program(program.top, Marks(columns, program.marks.registers), program.begin, program.steps)
    steps = list(program.steps)
    steps[chance.randrange(len(steps))] = ("set", "a", chance.choice(oracle.worths(program.top)))
    return Program(program.top, program.marks, program.begin, tuple(steps))


# Mending, [10]

def all_choices(offers):
    """Return all choices of offers, by their prices, and then as tuples."""
    every = [choice for many in range(len(offers) + 1) for choice in itertools.combinations(range(len(offers)), many)]
    return sorted(every, key=lambda choice: (price_of(offers, choice), choice))


def price_of(offers, choice):
    return sum(offers[index][-1] for index in choice)


def labelled(steps):
    """Return the steps as dicts with a label each, and for a skip the label in front of which it ends."""
    found = []
    for index, step in enumerate(steps):
        one = {"label": index, "step": step}
        if step[0] in ("lack", "same", "over"):
            one["end"] = index + 1 + step[-1]
        found.append(one)
    return found


def unlabelled(items):
    """Return the tuple of the steps of such dicts; a skip ends in front of the first one with its label, or a later."""
    steps = []
    for at, one in enumerate(items):
        step = one["step"]
        if "end" in one:
            ends = [other for other in range(len(items)) if items[other]["label"] >= one["end"] and other > at]
            step = step[:-1] + ((ends[0] if ends else len(items)) - at - 1,)
        steps.append(step)
    return tuple(steps)


def mended_by(program, offers, choice):
    """Return the marks and the steps after a choice, or None if they are not possible."""
    columns, registers, tested = list(program.marks.columns), list(program.marks.registers), set()
    for word, *parts in [offers[index] for index in choice]:
        if word == "test":
            tested.add(parts[0])
        elif parts[0] in (0, 1):
            columns[parts[0]] = parts[1] if word == "mark" else None
        else:
            registers["abc".index(parts[0])] = parts[1] if word == "mark" else None
    items = []
    for one in labelled(program.steps):
        if one["label"] in tested:
            places = [one["step"][at] for at in OPERANDS[one["step"][0]]]
            for place in places:
                items.append({"label": one["label"], "step": ("lack", place, 0), "end": one["label"] + 1})
        items.append(one)
    if len(items) > 8 or any(mark is not None and mark == worth for mark, worth in zip(registers, program.begin)):
        return None
    return Marks(tuple(columns), tuple(registers)), unlabelled(items)


def possible_by(program, offers):
    """Return a dict from all possible choices, in order, to the programs after them."""
    found = {}
    for choice in all_choices(offers):
        changed = mended_by(program, offers, choice)
        if changed is not None:
            found[choice] = Program(program.top, changed[0], program.begin, changed[1])
    return found


def random_offers(chance, program, many=None):
    return tuple(random_offer(chance, program) for _ in range(many or chance.randint(1, 5)))


def random_offer(chance, program):
    places = oracle.places_of(program)
    steps = [index for index, step in enumerate(program.steps) if step[0] in OPERANDS]
    kind, price = chance.choice(["own", "mark", "test", "test"] if steps else ["own", "mark"]), chance.randint(1, 9)
    if kind == "own":
        return "own", chance.choice(places), price
    if kind == "mark":
        return "mark", chance.choice(places), chance.randint(0, program.top), price
    return "test", chance.choice(steps), price


def spoils_by(program, rows):
    """Say whether rows are rows of a program, in the last of which an event happens."""
    every = oracle.all_rows(program)
    if not rows or any(row not in every for row in rows):
        return False
    stand, events = program.begin, []
    for row in rows:
        stand, _, events = oracle.true_run(program, stand, row)
    return events != []


# Chains, [11]

def chain_run(writer, reader, stands, row):
    """Return the stands after a row of the writer, what the reader tells truly or None, and the events."""
    tells = []
    after, told, events = oracle.true_run(writer, stands[0], row, tells)
    every = [("writer", event) for event in events]
    if len(told) != len(reader.marks.columns):
        return (after, stands[1]), None, every
    for (index, place), worth, mark in zip(tells, told, reader.marks.columns):
        written = writer.marks[place]
        if worth is None and written is not None and written != mark:
            every.append(("file", (index, "strayed", place)))
    read, told, events = oracle.true_run(reader, stands[1], tuple(told))
    return (after, read), told, every + [("reader", event) for event in events]


def file_by(writer, reader, rows):
    """Return the rows of the file."""
    contents, found = first_contents(writer), []
    for row in rows:
        stands = []
        contents, _ = oracle.plain_run(writer, contents, row, stands)
        if len(stands) == len(reader.marks.columns):
            found.append(tuple(stands))
    return found


def told_by(program, rows):
    """Return the lists of what a program tells plainly in each of some rows."""
    contents, every = first_contents(program), []
    for row in rows:
        contents, told = oracle.plain_run(program, contents, row)
        every.append(told)
    return every


def chain_move(writer, reader):
    def move(stands, row):
        after, _, events = chain_run(writer, reader, stands, row)
        return after, events
    return move


# What can be told, [12]

def wish_move(program, wish):
    def move(contents, row):
        after, told = oracle.plain_run(program, contents, row)
        return after, told == list(wish)
    return move


# Steps that can be left out, [13]

def without_by(program, choice):
    """Return the program without some steps."""
    items = [one for one in labelled(program.steps) if one["label"] not in choice]
    return Program(program.top, program.marks, program.begin, unlabelled(items))


def parts_of(choice):
    """Return all choices of some of the steps of a choice, of none, too, in order of how many they are."""
    return [part for many in range(len(choice) + 1) for part in itertools.combinations(choice, many)]
