"""Leaving out: how many steps a program can do without, with an Alike and Parteds as evidence."""

from lackmark.alike import Alike, PairMoves, compared
from lackmark.errors import BadChoice
from lackmark.exploring import PlainMoves
from lackmark.kinds import choices_of, is_ascending, is_between, told_apart
from lackmark.programs import Program, SKIPPING, check_program

MOST_LEFT = 4


class Leanest:
    """As many steps as possible that are left out, an Alike which shows it, and Parteds for all choices of more."""

    def __init__(self, left, alike, doubts):
        self.left = left
        self.alike = alike
        self.doubts = {choice: doubts[choice] for choice in doubts}

    def shows(self, program, choice):
        """Say whether the program is alike with the one without these steps, but with none without more of them."""
        check_program(program)
        _check_choice(program, choice)
        parts = _parts_of(choice)
        if not is_ascending(self.left, len(program)) or self.left not in parts:
            return False
        greater = [part for part in parts if len(part) > len(self.left)]
        if len(self.doubts) != len(greater):
            return False
        for part, parted in self.doubts.items():
            if not is_ascending(part, len(program)) or part not in greater:
                return False
            if not parted.shows(program, _without(program, part)):
                return False
        return self.alike.shows(program, _without(program, self.left))

    def __eq__(self, other):
        return (isinstance(other, Leanest) and told_apart(self.left) == told_apart(other.left)
                and self.alike == other.alike and told_apart(self.doubts) == told_apart(other.doubts))


def without(program, choice):
    """Return the program without the steps of a choice."""
    check_program(program)
    _check_choice(program, choice)
    return _without(program, choice)


def leanest(program, choice):
    """Return a Leanest for a program and a choice of its steps."""
    check_program(program)
    _check_choice(program, choice)
    moves, found = PlainMoves(program), {}
    for part in _parts_of(choice):
        other = _without(program, part)
        found[part] = compared(program, other, PairMoves(moves, PlainMoves(other)))
    left = ()
    for part in found:
        if isinstance(found[part], Alike) and len(part) > len(left):
            left = part
    return Leanest(left, found[left], {part: found[part] for part in found if len(part) > len(left)})


def most_left(program, choice):
    """Return the number of the steps that a Leanest leaves out."""
    return len(leanest(program, choice).left)


def _check_choice(program, thing):
    """Refuse a thing, whatever it is, that is not a choice of steps of a program."""
    if not is_ascending(thing, len(program)):
        raise BadChoice("not an ascending tuple of indices of steps")
    if not is_between(len(thing), 1, MOST_LEFT) or len(thing) == len(program):
        raise BadChoice("not one to four steps, or all of them")


def _parts_of(choice):
    """Return the list of all choices of some of these steps, in order of how many they are, and then as tuples."""
    every = choices_of(choice)
    return [part for many in range(len(choice) + 1) for part in every if len(part) == many]


def _without(program, choice):
    """Return the program without these steps; a skip is as long as what is left of what it skipped."""
    kept, steps = [index for index in range(len(program)) if index not in choice], []
    for index in kept:
        step = program.steps[index]
        if step[0] in SKIPPING:
            skipped = [other for other in kept if index < other <= index + step[-1]]
            step = step[:-1] + (len(skipped),)
        steps.append(step)
    return Program(program.top, program.marks, program.begin, tuple(steps))
