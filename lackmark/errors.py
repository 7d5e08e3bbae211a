"""The errors of the package: one class for each kind of failure."""


class LackError(ValueError):
    """What all errors of the package are."""


class BadData(LackError):
    """Not data, or not such data as are needed."""


class BadRow(LackError):
    """Not a row, or not one that fits."""


class BadNumber(LackError):
    """Not an integer, or one outside of its limits."""


class BadMarks(LackError):
    """Not marks, or not such marks as are needed."""


class BadPlace(LackError):
    """Not a place, or not one that is there."""


class BadProgram(LackError):
    """Not a program; the part is the word of what is wrong with it, or None."""

    def __init__(self, part=None):
        super().__init__(f"not a program, because of this part: {part}")
        self.part = part


class BadStand(LackError):
    """Not a stand, or not one of the program."""


class BadEvent(LackError):
    """Not an event, or not one of the program."""


class TooLarge(LackError):
    """More comes about than is looked through."""


class Unequal(LackError):
    """Two programs that cannot be put side by side."""


class BadOffers(LackError):
    """Not offers for the program."""


class BadChoice(LackError):
    """Not a choice, or not a possible one."""


class BadChain(LackError):
    """Not a chain."""


class BadWish(LackError):
    """Not a wish for the program."""


class NothingDone(LackError):
    """Nothing is there that can be taken back."""


class BadText(LackError):
    """Not a text that can be read; the row is the index of the line that is wrong."""

    def __init__(self, row=0):
        super().__init__(f"not such a text, because of the line with this index: {row}")
        self.row = row
