"""Curves: tuples that lead an input to a value, both fractions."""

from framecues.errors import NoCurve, NoFlag, NoNumber
from framecues.ratios import ONE, ZERO, even_place, even_step, is_ratio, is_whole, less, minus, over, plus, ratio
from framecues.ratios import spread_evenly, times


def is_curve(thing):
    """Whether thing is a curve of one of the three sorts."""
    if not isinstance(thing, tuple) or len(thing) == 0 or not isinstance(thing[0], str):
        return False
    if thing[0] == "linear":
        return len(thing) == 2 and _are_points(thing[1])
    if thing[0] == "cubic":
        return len(thing) == 3 and is_ratio(thing[1]) and is_ratio(thing[2])
    if thing[0] == "steps":
        return len(thing) == 3 and _are_steps(thing[1], thing[2])
    return False


def value_at(curve, x, before=False):
    """The value to which curve leads x; before tells which side of a step counts at its border."""
    if not is_curve(curve):
        raise NoCurve("this is no curve")
    if not is_ratio(x):
        raise NoNumber("x is no fraction")
    if not isinstance(before, bool):
        raise NoFlag("before is neither True nor False")
    return curve_value(curve, x, before)


def curve_value(curve, x, before):
    """As value_at, for what is known to be a curve, a fraction and a flag."""
    if curve[0] == "linear":
        return _line_value(curve[1], x)
    if curve[0] == "cubic":
        return _cubic_value(curve[1], curve[2], x)
    return _step_value(curve[1], curve[2], x, before)


def settled(curve):
    """A linear curve with all inputs told; another curve as it is."""
    if not is_curve(curve):
        raise NoCurve("this is no curve")
    if curve[0] == "linear":
        return ("linear", _settled_points(curve[1]))
    return curve


def rises(curve):
    """Whether from 0 to 1 no greater input has a lesser value."""
    if not is_curve(curve):
        raise NoCurve("this is no curve")
    if curve[0] == "linear":
        return _line_rises(_settled_points(curve[1]))
    if curve[0] == "cubic":
        return _cubic_rises(curve[1], curve[2])
    return True


def _are_points(thing):
    if not isinstance(thing, tuple) or len(thing) == 0:
        return False
    for point in thing:
        if not isinstance(point, tuple) or len(point) != 2:
            return False
        value, place = point
        if not is_ratio(value) or not (place is None or is_ratio(place)):
            return False
    return True


def _are_steps(count, where):
    if not is_whole(count) or not isinstance(where, str):
        return False
    if where == "none":
        return count >= 2
    return where in ("start", "end", "both") and count >= 1


def _settled_points(points):
    """The points with all inputs told, none less than one ahead of it."""
    places = [point[1] for point in points]
    if places[0] is None:
        places[0] = ZERO
    if places[-1] is None:
        places[-1] = ONE
    spread = spread_evenly(_lifted(places))
    return tuple([(points[at][0], place) for at, place in enumerate(spread)])


def _lifted(places):
    """The places, each told one at least the greatest ahead of it; the first is told."""
    lifted = []
    greatest = places[0]
    for place in places:
        if place is None:
            lifted.append(None)
            continue
        # This is less(greatest, place) without a call: there may be many points.
        if greatest[0] * place[1] < place[0] * greatest[1]:
            greatest = place
        lifted.append(greatest)
    return lifted


def _line_value(points, x):
    """The value of the linear curve through points; their inputs need not be settled."""
    if len(points) == 1:
        return points[0][0]
    first, low_place, high_place = _stretch(points, x)
    low = points[first][0]
    high = points[first + 1][0]
    if low_place == high_place:
        return high
    part = over(minus(x, low_place), minus(high_place, low_place))
    return plus(low, times(minus(high, low), part))


def _stretch(points, x):
    """The index of the point from which the line leads on at x, with its settled input and that of the next.

    Only the inputs beside x are spread, as the other ones do not matter.
    """
    low, low_place, high, high_place = _told_stretch(points, x)
    count = high - low
    if count == 1:
        return low, low_place, high_place
    if less(x, low_place):
        gone = 0
    elif not less(x, high_place):
        gone = count - 1
    else:
        gone = even_place(low_place, high_place, count, x)
    start = even_step(low_place, high_place, gone, count)
    return low + gone, start, even_step(low_place, high_place, gone + 1, count)


def _told_stretch(points, x):
    """Index and settled input of the last told point not behind x, but the first one if there is none,
    and those of the next told point; of the last two told points if x is not ahead of the last one."""
    top, bottom = x
    last = len(points) - 1
    low = 0
    low_place = points[0][1]
    if low_place is None:
        low_place = ZERO
    for at in range(1, last):
        place = points[at][1]
        if place is None:
            continue
        # This is less(place, low_place), and below less(x, place), without calls: there may be many points.
        if place[0] * low_place[1] < low_place[0] * place[1]:
            place = low_place
        if top * place[1] < place[0] * bottom:
            return low, low_place, at, place
        low = at
        low_place = place
    place = points[last][1]
    if place is None:
        place = ONE
    if less(place, low_place):
        place = low_place
    return low, low_place, last, place


def _cubic_value(a, b, x):
    if less(x, ZERO):
        return times((3, 1), times(a, x))
    rest = minus(ONE, x)
    if less(x, ONE):
        bend = times(times((3, 1), rest), plus(times(rest, a), times(x, b)))
        return times(x, plus(bend, times(x, x)))
    # Behind 1 the rest is below 0, so this is the straight line that goes on.
    return minus(ONE, times(times((3, 1), minus(ONE, b)), rest))


def _step_value(count, where, x, before):
    scaled = x[0] * count
    done = scaled // x[1]
    if where in ("start", "both"):
        done += 1
    if before and scaled % x[1] == 0:
        done -= 1
    if done < 0 and x[0] >= 0:
        done = 0
    most = _most_steps(count, where)
    if done > most and not less(ONE, x):
        done = most
    return ratio(done, most)


def _most_steps(count, where):
    """The number of steps between the values 0 and 1."""
    if where == "none":
        return count - 1
    if where == "both":
        return count + 1
    return count


def _line_rises(points):
    if len(points) == 1:
        return True
    corners = _line_corners(points)
    return not any([less(corners[at], corners[at - 1]) for at in range(1, len(corners))])


def _line_corners(points):
    """The values at 0, on both sides of each told input up to 1, and at 1.

    Between these the curve is straight, so that it rises if they do.
    """
    corners = [_line_value(points, ZERO)]
    for at, (value, place) in enumerate(points):
        if not less(ZERO, place) or less(ONE, place):
            continue
        if at == 0 and points[1][1] == place:
            # Ahead of a jump at the first point the second one tells the value.
            corners.append(points[1][0])
        elif at == 0 or points[at - 1][1] != place:
            corners.append(value)
        if at == len(points) - 1 or points[at + 1][1] != place:
            corners.append(value)
    corners.append(_line_value(points, ONE))
    return corners


def _cubic_rises(a, b):
    """Whether the slope is nowhere below 0 from 0 to 1.

    A third of the slope is a * (1 - x) ** 2 + 2 * (b - a) * x * (1 - x) + (1 - b) * x ** 2.
    """
    if less(a, ZERO) or less(ONE, b):
        return False
    bend = minus(b, a)
    if not less(bend, ZERO):
        return True
    return not less(times(a, minus(ONE, b)), times(bend, bend))
