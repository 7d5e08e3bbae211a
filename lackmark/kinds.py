"""What kind a thing is: the tests that several files need."""


def is_integer(thing):
    """Say whether a thing, whatever it is, is an integer; booleans are none."""
    return isinstance(thing, int) and not isinstance(thing, bool)


def is_between(thing, least, most):
    """Say whether a thing, whatever it is, is an integer within these limits."""
    return is_integer(thing) and least <= thing <= most


def is_number_or_none(thing):
    """Say whether a thing, whatever it is, is a number from 0 to 9, or None."""
    return thing is None or is_between(thing, 0, 9)
