"""Mending: the cheapest tests, other marks and own objects, after which no event can happen in a program."""

from lackmark.errors import BadChoice, BadOffers, BadProgram
from lackmark.kinds import choices_of, is_ascending, is_between, told_apart
from lackmark.programs import OPERANDS, Program, SKIPPING, are_data_for, check_program
from lackmark.spoiling import Never, ends_with, happen

MOST_OFFERS = 5
MOST_PRICE = 9


class Mended:
    """A choice after which no event can happen, a Never which shows it, and doubts about all that are cheaper."""

    def __init__(self, choice, never, doubts):
        self.choice = choice
        self.never = never
        self.doubts = {other: doubts[other] for other in doubts}

    def shows(self, program, offers):
        """Say whether no event can happen after the choice, and one after each possible choice that is cheaper."""
        check_program(program)
        _check_offers(program, offers)
        programs = _possible(program, offers)
        if not is_ascending(self.choice, len(offers)) or self.choice not in programs:
            return False
        cheaper = _cheaper(programs, offers, self.choice)
        return _are_doubts(self.doubts, cheaper) and self.never.shows(programs[self.choice])

    def __eq__(self, other):
        return (isinstance(other, Mended) and told_apart(self.choice) == told_apart(other.choice)
                and self.never == other.never and told_apart(self.doubts) == told_apart(other.doubts))


class Hopeless:
    """Doubts about all possible choices."""

    def __init__(self, doubts):
        self.doubts = {choice: doubts[choice] for choice in doubts}

    def shows(self, program, offers):
        """Say whether an event can happen after each possible choice."""
        check_program(program)
        _check_offers(program, offers)
        return _are_doubts(self.doubts, _possible(program, offers))

    def __eq__(self, other):
        return isinstance(other, Hopeless) and told_apart(self.doubts) == told_apart(other.doubts)


def after(program, offers, choice):
    """Return the program after a choice."""
    check_program(program)
    _check_offers(program, offers)
    found = _mended_by(program, offers, choice) if is_ascending(choice, len(offers)) else None
    if found is None:
        raise BadChoice("not a choice, or not a possible one")
    return found


def mend(program, offers):
    """Return a Mended or a Hopeless for a program and offers."""
    check_program(program)
    _check_offers(program, offers)
    programs = _possible(program, offers)
    found = _looked_through(programs)
    mended = [choice for choice in programs if isinstance(found[choice], Never)]
    if len(mended) == 0:
        return Hopeless({choice: found[choice].data for choice in programs})
    cheaper = _cheaper(programs, offers, mended[0])
    return Mended(mended[0], found[mended[0]], {choice: found[choice].data for choice in cheaper})


def least_price(program, offers):
    """Return the least price of a choice after which no event can happen, None if there is none."""
    found = mend(program, offers)
    return _price(offers, found.choice) if isinstance(found, Mended) else None


def _check_offers(program, thing):
    """Refuse a thing, whatever it is, that is not offers for a program."""
    if not isinstance(thing, tuple) or not is_between(len(thing), 1, MOST_OFFERS):
        raise BadOffers("not a tuple of one to five offers")
    if not all([_is_offer(program, offer) for offer in thing]):
        raise BadOffers("not offers for the program")


def _is_offer(program, thing):
    """Say whether a thing, whatever it is, is an offer for a program."""
    if not isinstance(thing, tuple) or len(thing) < 3 or not isinstance(thing[0], str):
        return False
    if not is_between(thing[-1], 1, MOST_PRICE):
        return False
    if thing[0] == "own":
        return len(thing) == 3 and thing[1] in program.marks
    if thing[0] == "mark":
        return len(thing) == 4 and thing[1] in program.marks and is_between(thing[2], 0, program.top)
    if thing[0] != "test" or len(thing) != 3 or not is_between(thing[1], 0, len(program) - 1):
        return False
    return program[thing[1]][0] in OPERANDS


def _price(offers, choice):
    """Return the sum of the prices of the offers of a choice."""
    return sum([offers[index][-1] for index in choice])


def _possible(program, offers):
    """Return a dict from the possible choices, ordered by their prices and then as tuples, to the programs after."""
    by_price = {}
    for choice in choices_of(list(range(len(offers)))):
        by_price.setdefault(_price(offers, choice), []).append(choice)
    found = {}
    for price in range(MOST_OFFERS * MOST_PRICE + 1):
        for choice in by_price.get(price, []):
            changed = _mended_by(program, offers, choice)
            if changed is not None:
                found[choice] = changed
    return found


def _mended_by(program, offers, choice):
    """Return the program after a choice, None if it is none."""
    changes, tested = {}, {}
    for offer in [offers[index] for index in choice]:
        if offer[0] == "test":
            tested[offer[1]] = True
        else:
            changes[offer[1]] = offer[2] if offer[0] == "mark" else None
    marks, steps = program.marks | changes, _with_tests(program.steps, tested)
    try:
        return Program(program.top, marks, program.begin, steps)
    except BadProgram:
        return None


def _with_tests(steps, tested):
    """Return the tuple of the steps with tests in front of those whose index is in a dict."""
    # Where each step, with its tests in front, begins then; at last, where all of them end.
    begins = [0]
    for index, step in enumerate(steps):
        begins.append(begins[-1] + 1 + (len(OPERANDS[step[0]]) if index in tested else 0))
    found = []
    for index, step in enumerate(steps):
        if index in tested:
            found.extend(_tests_of(step))
        if step[0] in SKIPPING:
            behind = index + 1
            step = step[:-1] + (begins[behind + step[-1]] - begins[behind],)
        found.append(step)
    return tuple(found)


def _tests_of(step):
    """Return the list of the tests of a reckoning step; each skips those behind it and the step."""
    operands = OPERANDS[step[0]]
    return [("lack", step[at], len(operands) - many) for many, at in enumerate(operands)]


def _looked_through(programs):
    """Return a dict from the choices of such a dict to a Never or an Once for the program after each."""
    found, known = {}, {}
    for choice, changed in programs.items():
        # Several choices may come to the same program.
        key = (changed.marks.columns, changed.marks.registers, changed.steps)
        if key not in known:
            known[key] = happen(changed)
        found[choice] = known[key]
    return found


def _cheaper(programs, offers, choice):
    """Return the part of a dict of programs for the choices that are cheaper than another one, in its order."""
    price = _price(offers, choice)
    return {other: programs[other] for other in programs if _price(offers, other) < price}


def _are_doubts(doubts, programs):
    """Say whether doubts are a dict from exactly these choices to data in the last row of which an event happens."""
    if len(doubts) != len(programs):
        return False
    for choice, data in doubts.items():
        if not is_ascending(choice, MOST_OFFERS) or choice not in programs:
            return False
        if not are_data_for(programs[choice], data) or not ends_with(programs[choice], None, data):
            return False
    return True
