"""Short ways to make timings, rows and stages."""

from framecues.errors import Refused
from framecues.stages import Stage
from framecues.timings import PLAIN
from reckoning import told

STRAIGHT = PLAIN[7]


def n(number):
    """The tuple of a number; None and "endless" stay."""
    return number if number is None or isinstance(number, str) else told(number)


def timing(length=10, delay=0, behind=0, fill="none", first=0, times=1, way="normal", curve=STRAIGHT):
    return (n(delay), n(behind), fill, n(first), n(times), n(length), way, curve)


def keys(*values, name="x", mode=None):
    """Keyframes with these values of one property, evenly spread."""
    return tuple((None, mode, STRAIGHT, ((name, n(value)),)) for value in values)


ONE = timing()
RISE = keys(0, 100)


def effect(name="e", time=ONE, frames=RISE, target="box", mode="replace", going="anew"):
    return ("effect", name, target, time, frames, mode, going)


def player(name="p", lead="e", line="c", kind="plain"):
    return ("player", name, lead, line, kind)


def frame(time, line="c"):
    return ("frame", ((line, n(time)),))


def stage(*rows):
    made = Stage()
    for row in rows:
        made.do(row)
    return made


def playing(time=ONE, frames=RISE, kind="plain", at=0):
    """A stage whose player p leads the effect e along the clock c from the time at of the clock on."""
    return stage(effect(time=time, frames=frames), ("clock", "c"), player(kind=kind), ("play", "p"), frame(at))


def lead(made, *rows):
    """Tell a stage more rows."""
    for row in rows:
        made.do(row)
    return made


def refusal(made, row):
    """The kind of the refusal, None if there is none."""
    try:
        made.do(row)
    except Refused as refused:
        return refused.kind
    return None


def events(made, word=None):
    """The events of the log without their frames, all of them or those with one word."""
    return [event for _, event in made.log() if word is None or event[0] == word]
