"""Reckoning with lengths: fractions, or the word "endless", which is greater than each of them."""

from framecues.ratios import ZERO, less, plus, times

ENDLESS = "endless"


def joined(a, b):
    """a + b."""
    if a == ENDLESS or b == ENDLESS:
        return ENDLESS
    return plus(a, b)


def repeated(a, b):
    """a * b; neither is below 0."""
    if a == ZERO or b == ZERO:
        return ZERO
    if a == ENDLESS or b == ENDLESS:
        return ENDLESS
    return times(a, b)


def below(a, b):
    """Whether a < b."""
    if a == ENDLESS:
        return False
    return b == ENDLESS or less(a, b)


def lesser(a, b):
    """The lesser one of a and b."""
    return b if below(b, a) else a


def greater(a, b):
    """The greater one of a and b."""
    return b if below(a, b) else a
