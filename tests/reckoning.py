"""Curves reckoned once more, straight from the document, by Python's own fractions."""

from fractions import Fraction


def told(number):
    """A tuple (top, bottom) of a fraction or an integer."""
    number = Fraction(number)
    return (number.numerator, number.denominator)


def read(pair):
    """Python's fraction of a tuple (top, bottom)."""
    return Fraction(pair[0], pair[1])


def line(*points):
    """A linear curve of pairs (value, input), the input None or a number."""
    return ("linear", tuple((told(value), None if place is None else told(place)) for value, place in points))


def cubic(a, b):
    return ("cubic", told(a), told(b))


def settled_places(curve):
    places = [None if place is None else read(place) for _, place in curve[1]]
    if places[0] is None:
        places[0] = Fraction(0)
    if places[-1] is None:
        places[-1] = Fraction(1)
    for at in range(len(places)):
        if places[at] is not None:
            places[at] = max(place for place in places[:at + 1] if place is not None)
    for at in range(len(places)):
        if places[at] is None:
            ahead = at - 1
            behind = min(k for k in range(at, len(places)) if places[k] is not None)
            places[at] = places[ahead] + (places[behind] - places[ahead]) / (behind - ahead)
    return places


def line_value(curve, x):
    return placed_value([read(value) for value, _ in curve[1]], settled_places(curve), x)


def placed_value(values, places, x):
    """The value at x of the line with these values at these settled inputs."""
    if len(values) == 1:
        return values[0]
    fitting = [at for at in range(len(values) - 1) if places[at] <= x]
    a = fitting[-1] if fitting else 0
    b = a + 1
    if places[a] == places[b]:
        return values[b]
    return values[a] + (values[b] - values[a]) * (x - places[a]) / (places[b] - places[a])


def cubic_value(curve, x):
    a, b = read(curve[1]), read(curve[2])
    if x < 0:
        return 3 * a * x
    if x > 1:
        return 1 + 3 * (1 - b) * (x - 1)
    return 3 * (1 - x) ** 2 * x * a + 3 * (1 - x) * x ** 2 * b + x ** 3


def steps_value(curve, x, before=False):
    _, n, where = curve
    s = (x * n).numerator // (x * n).denominator
    s += {"start": 1, "end": 0, "none": 0, "both": 1}[where]
    if before and (x * n).denominator == 1:
        s -= 1
    if x >= 0:
        s = max(s, 0)
    m = {"start": n, "end": n, "none": n - 1, "both": n + 1}[where]
    if x <= 1:
        s = min(s, m)
    return Fraction(s, m)
