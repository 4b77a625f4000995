"""Timings: how the local time of an effect leads to its phase, iteration and progress."""

from framecues.curves import curve_value, is_curve
from framecues.endless import ENDLESS, below, greater, joined, lesser, repeated
from framecues.errors import NoNumber, NoSign, NoTiming
from framecues.names import is_word
from framecues.ratios import ONE, ZERO, is_ratio, is_whole, less, minus, negated, over, plus, rest, whole

PLAIN = (
    (0, 1),
    (0, 1),
    "none",
    (0, 1),
    (1, 1),
    None,
    "normal",
    ("linear", (((0, 1), (0, 1)), ((1, 1), (1, 1)))),
)


class Spans:
    """The length of a timing, told, and what follows from it: active duration, end and the two edges."""

    def __init__(self, timing, length):
        delay = timing[0]
        self.length = length
        self.active = repeated(length, timing[4])
        over_at = joined(delay, self.active)
        self.end = greater(joined(over_at, timing[1]), ZERO)
        self.first_edge = greater(lesser(delay, self.end), ZERO)
        self.second_edge = greater(lesser(over_at, self.end), ZERO)


def is_timing(thing):
    """Whether thing is a timing."""
    if not isinstance(thing, tuple) or len(thing) != 8:
        return False
    delay, behind, fill, first, times, length, way, curve = thing
    if not is_ratio(delay) or not is_ratio(behind):
        return False
    if not is_word(fill, ("none", "forwards", "backwards", "both")):
        return False
    if not is_amount(first) or not _is_span(times) or not (length is None or _is_span(length)):
        return False
    return is_word(way, ("normal", "reverse", "alternate", "alternate reverse")) and is_curve(curve)


def is_amount(thing):
    """Whether thing is a fraction that is not below 0."""
    return is_ratio(thing) and thing[0] >= 0


def _is_span(thing):
    return is_word(thing, (ENDLESS,)) or is_amount(thing)


def edges(timing):
    """The tuple (first edge, second edge, end)."""
    if not is_timing(timing):
        raise NoTiming("this is no timing")
    spans = _own_spans(timing)
    return (spans.first_edge, spans.second_edge, spans.end)


def told_at(timing, time, sign):
    """The tuple (phase, active time, overall, simple progress, iteration, directed progress, progress)."""
    if not is_timing(timing):
        raise NoTiming("this is no timing")
    if time is not None and not is_ratio(time):
        raise NoNumber("the time is no fraction")
    if not is_whole(sign) or sign not in (1, -1):
        raise NoSign("the sign is neither 1 nor -1")
    return facts_at(timing, _own_spans(timing), time, sign)


def _own_spans(timing):
    return Spans(timing, ZERO if timing[5] is None else timing[5])


def facts_at(timing, spans, time, sign):
    """As told_at, for a timing with these spans."""
    phase = phase_at(spans, time, sign)
    elapsed = active_time(timing[0], spans, timing[2], phase, time)
    if elapsed is None:
        return (phase, None, None, None, None, None, None)
    overall = _overall_progress(timing, spans, phase, elapsed)
    simple = _simple_progress(timing, spans, phase, elapsed, overall)
    iteration = _iteration(timing, phase, overall, simple)
    way = direction(timing, iteration)
    directed = simple if way == 1 else minus(ONE, simple)
    before = (phase == "before" and way == 1) or (phase == "after" and way == -1)
    return (phase, elapsed, overall, simple, iteration, directed, curve_value(timing[7], directed, before))


def phase_at(spans, time, sign):
    """The phase; the sign matters at the edges alone."""
    if time is None:
        return "idle"
    if less(time, spans.first_edge) or (sign == -1 and time == spans.first_edge):
        return "before"
    if below(spans.second_edge, time) or (sign == 1 and time == spans.second_edge):
        return "after"
    return "active"


def active_time(delay, spans, fill, phase, time):
    """The active time, None where the fill does not reach."""
    if phase == "active":
        return minus(time, delay)
    if phase == "before" and fill in ("backwards", "both"):
        return greater(minus(time, delay), ZERO)
    if phase == "after" and fill in ("forwards", "both"):
        return greater(lesser(minus(time, delay), spans.active), ZERO)
    return None


def _overall_progress(timing, spans, phase, elapsed):
    first = timing[3]
    if spans.length == ENDLESS:
        return first
    if spans.length == ZERO:
        return first if phase == "before" else joined(first, timing[4])
    return plus(first, over(elapsed, spans.length))


def _simple_progress(timing, spans, phase, elapsed, overall):
    simple = rest(timing[3] if overall == ENDLESS else overall)
    at_end = phase in ("active", "after") and elapsed == spans.active and timing[4] != ZERO
    # At its end an iteration is seen to its end, instead of the next one's beginning.
    return ONE if at_end and simple == ZERO else simple


def _iteration(timing, phase, overall, simple):
    if overall == ENDLESS or (phase == "after" and timing[4] == ENDLESS):
        return ENDLESS
    return whole(overall) - 1 if simple == ONE else whole(overall)


def direction(timing, iteration):
    """1 forwards, -1 backwards."""
    way = timing[6]
    if way == "normal":
        return 1
    if way == "reverse":
        return -1
    if iteration == ENDLESS:
        return 1
    even = iteration % 2 == 0
    return 1 if even == (way == "alternate") else -1


def edge_times(timing, spans):
    """The active times at which an effect is entered and left, told by its events."""
    back = negated(timing[0])
    begin = greater(lesser(back, spans.active), ZERO)
    return begin, greater(lesser(joined(spans.end, back), spans.active), ZERO)
