"""What kind a thing is, and choices: what several files need."""


def is_integer(thing):
    """Say whether a thing, whatever it is, is an integer; booleans are none."""
    return isinstance(thing, int) and not isinstance(thing, bool)


def is_between(thing, least, most):
    """Say whether a thing, whatever it is, is an integer within these limits."""
    return is_integer(thing) and least <= thing <= most


def is_number_or_none(thing, most=9):
    """Say whether a thing, whatever it is, is a number up to the greatest one, or None."""
    return thing is None or is_between(thing, 0, most)


def are_numbers_or_none(thing, many, most=9):
    """Say whether a thing, whatever it is, is a tuple of so many numbers up to the greatest one, or Nones."""
    if not isinstance(thing, tuple) or len(thing) != many:
        return False
    for worth in thing:
        # This is asked of each row and each stand, so that it does without calls of other functions.
        if worth is not None and (not isinstance(worth, int) or isinstance(worth, bool) or not 0 <= worth <= most):
            return False
    return True


def told_apart(thing):
    """Return a thing with a word for each boolean in it, as Python takes booleans for the integers 0 and 1."""
    if isinstance(thing, bool):
        return str(thing)
    if isinstance(thing, tuple):
        return tuple([told_apart(part) for part in thing])
    if isinstance(thing, list):
        return [told_apart(part) for part in thing]
    if isinstance(thing, dict):
        return {told_apart(key): told_apart(worth) for key, worth in thing.items()}
    return thing


def is_ascending(thing, many):
    """Say whether a thing, whatever it is, is an ascending tuple of indices of so many things."""
    if not isinstance(thing, tuple) or not all([is_between(index, 0, many - 1) for index in thing]):
        return False
    return all([index < behind for index, behind in zip(thing, thing[1:])])


def choices_of(indices):
    """Return the list of all choices of some of these ascending indices, of none and of all, too, as tuples ordered."""
    found = [()]
    for index in indices[::-1]:
        found = [()] + [(index,) + choice for choice in found] + found[1:]
    return found
