"""Choices: ascending tuples of indices."""

from lackmark.kinds import is_between


def is_ascending(thing, many):
    """Say whether a thing, whatever it is, is an ascending tuple of indices of so many things."""
    if not isinstance(thing, tuple) or not all([is_between(index, 0, many - 1) for index in thing]):
        return False
    return all([index < behind for index, behind in zip(thing, thing[1:])])


def choices_of(indices):
    """Return the list of all choices of some of these ascending indices, of none and of all, too, as tuples ordered."""
    found = [()]
    for index in indices[::-1]:
        found = [()] + [(index,) + choice for choice in found] + found[1:]
    return found
