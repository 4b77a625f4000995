"""Exact fractions: tuples (top, bottom) in lowest terms, bottom >= 1."""

from math import gcd

ZERO = (0, 1)
ONE = (1, 1)


def is_whole(thing):
    """Whether thing is an integer; bools are none."""
    return isinstance(thing, int) and not isinstance(thing, bool)


def is_ratio(thing):
    """Whether thing is a fraction."""
    if not isinstance(thing, tuple) or len(thing) != 2:
        return False
    top, bottom = thing
    if not is_whole(top) or not is_whole(bottom):
        return False
    return bottom >= 1 and gcd(top, bottom) == 1


def ratio(top, bottom):
    """The fraction top / bottom; bottom is any integer but 0."""
    shared = gcd(top, bottom)
    if bottom < 0:
        shared = -shared
    return (top // shared, bottom // shared)


def plus(a, b):
    """a + b."""
    return ratio(a[0] * b[1] + b[0] * a[1], a[1] * b[1])


def minus(a, b):
    """a - b."""
    return ratio(a[0] * b[1] - b[0] * a[1], a[1] * b[1])


def times(a, b):
    """a * b."""
    return ratio(a[0] * b[0], a[1] * b[1])


def over(a, b):
    """a / b; b is not 0."""
    return ratio(a[0] * b[1], a[1] * b[0])


def less(a, b):
    """Whether a < b."""
    return a[0] * b[1] < b[0] * a[1]


def spread_evenly(places):
    """Fill each run of None evenly between the fractions beside it.

    The first and the last of places are fractions.
    """
    spread = [places[0]]
    told = 0
    for at in range(1, len(places)):
        if places[at] is not None:
            spread.extend(_even_steps(places[told], places[at], at - told))
            told = at
    return spread


def _even_steps(low, high, count):
    """The ends of count equal steps that lead from low to high."""
    step = over(minus(high, low), (count, 1))
    return [plus(low, times(step, (k, 1))) for k in range(1, count + 1)]
