"""Things of every kind, for the places where each thing must be refused or looked at."""


class Odd:
    """An object that no part of the package knows."""


class Whole(int):
    """An integer all the same."""


def all_but(*kinds):
    """Return things of all kinds but these; True and False are no integers here."""
    things = [None, True, False, -1, 10, 10 ** 40, "", "a", "d", "1", "aa", b"", b"a", [], [1], [None], (), (1,),
              (None,), ("a",), (True,), {}, {0: 1}, set(), {1}, frozenset(), frozenset([1]), range(1), object(),
              Odd(), Odd, len, iter([]), ValueError()]
    return [thing for thing in things if not any(is_of(thing, kind) for kind in kinds)]


def is_of(thing, kind):
    if kind is None:
        return thing is None
    return isinstance(thing, kind) and not (isinstance(thing, bool) and kind is int)
