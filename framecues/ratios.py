"""Exact fractions: tuples (top, bottom) in lowest terms, bottom >= 1."""

from math import gcd

ZERO = (0, 1)
ONE = (1, 1)


def is_whole(thing):
    """Whether thing is an integer; bools are none."""
    return isinstance(thing, int) and not isinstance(thing, bool)


def is_ratio(thing):
    """Whether thing is a fraction."""
    if not isinstance(thing, tuple) or len(thing) != 2:
        return False
    top, bottom = thing
    # This is is_whole of both without calls: curves of many points ask often.
    if not isinstance(top, int) or not isinstance(bottom, int) or isinstance(top, bool) or isinstance(bottom, bool):
        return False
    return bottom == 1 or (bottom > 1 and gcd(top, bottom) == 1)


def ratio(top, bottom):
    """The fraction top / bottom; bottom is any integer but 0."""
    shared = gcd(top, bottom)
    if bottom < 0:
        shared = -shared
    return (top // shared, bottom // shared)


def plus(a, b):
    """a + b."""
    return ratio(a[0] * b[1] + b[0] * a[1], a[1] * b[1])


def minus(a, b):
    """a - b."""
    return ratio(a[0] * b[1] - b[0] * a[1], a[1] * b[1])


def times(a, b):
    """a * b."""
    return ratio(a[0] * b[0], a[1] * b[1])


def over(a, b):
    """a / b; b is not 0."""
    return ratio(a[0] * b[1], a[1] * b[0])


def negated(a):
    """-a."""
    return (-a[0], a[1])


def whole(a):
    """The greatest integer that is not above a."""
    return a[0] // a[1]


def rest(a):
    """What a is above its whole number."""
    return (a[0] % a[1], a[1])


def less(a, b):
    """Whether a < b."""
    return a[0] * b[1] < b[0] * a[1]


def spread_evenly(places):
    """Fill each run of None evenly between the fractions beside it.

    The first and the last of places are fractions.
    """
    spread = [places[0]]
    told = 0
    for at in range(1, len(places)):
        place = places[at]
        if place is None:
            continue
        if at - told > 1:
            spread.extend(_inner_steps(places[told], place, at - told))
        spread.append(place)
        told = at
    return spread


def _inner_steps(low, high, count):
    """The ends of all but the last of count equal steps that lead from low to high."""
    bottom = low[1] * high[1] * count
    start = low[0] * high[1] * count
    step = high[0] * low[1] - low[0] * high[1]
    steps = []
    for k in range(1, count):
        # This is ratio without a call: there may be many steps.
        top = start + step * k
        shared = gcd(top, bottom)
        steps.append((top // shared, bottom // shared))
    return steps


def even_step(low, high, k, count):
    """The end of step k, if count equal steps lead from low to high."""
    bottom = low[1] * high[1]
    return ratio(low[0] * high[1] * (count - k) + high[0] * low[1] * k, bottom * count)


def even_place(low, high, count, x):
    """The number of whole ones of count equal steps from low to high that lead up to x; high is above low."""
    way = minus(high, low)
    gone = minus(x, low)
    return gone[0] * way[1] * count // (gone[1] * way[0])
