"""Rows: the forms in which a stage is told what to do."""

from framecues.curves import is_curve
from framecues.keyframes import is_keyframes
from framecues.names import is_name, is_player_name, is_word
from framecues.ratios import is_ratio
from framecues.timings import is_amount, is_timing

# Each word leads to the kinds of what stands behind it.
FORMS = {
    "effect": ("name", "name", "timing", "keyframes", "mode", "going"),
    "group": ("name", "timing", "children"),
    "sequence": ("name", "timing", "children"),
    "retime": ("name", "timing"),
    "clock": ("name",),
    "scrolled": ("name",),
    "player": ("name", "maybe name", "maybe name", "sort"),
    "play": ("player",),
    "pause": ("player",),
    "reverse": ("player",),
    "finish": ("player",),
    "cancel": ("player",),
    "seek": ("player", "maybe number"),
    "start": ("player", "maybe number"),
    "rate": ("player", "number"),
    "smooth": ("player", "number"),
    "keep": ("player",),
    "follow": ("player", "maybe name"),
    "use": ("player", "maybe name"),
    "commit": ("player",),
    "frame": ("times",),
    "settle": (),
    "transit": ("name", "name", "name", "amount", "number", "curve"),
    "still": ("name", "name"),
    "style": ("changes",),
}


def is_row(thing):
    """Whether thing has one of the forms of a row."""
    if not isinstance(thing, tuple) or len(thing) == 0:
        return False
    if not isinstance(thing[0], str) or thing[0] not in FORMS:
        return False
    form = FORMS[thing[0]]
    if len(thing) != len(form) + 1:
        return False
    return all([_is_part(kind, thing[at + 1]) for at, kind in enumerate(form)])


def _is_part(kind, thing):
    if kind in PARTS:
        test = PARTS[kind]
        return test(thing)
    words = WORDS[kind]
    return is_word(thing, words)


def _is_name_part(thing):
    return is_name(thing)


def _is_maybe_name(thing):
    return thing is None or is_name(thing)


def _is_player_part(thing):
    return is_player_name(thing)


def _is_number(thing):
    return is_ratio(thing)


def _is_maybe_number(thing):
    return thing is None or is_ratio(thing)


def _is_amount_part(thing):
    return is_amount(thing)


def _is_timing_part(thing):
    return is_timing(thing)


def _is_curve_part(thing):
    return is_curve(thing)


def _is_keyframes_part(thing):
    return is_keyframes(thing)


def _are_children(thing):
    """Whether thing is a tuple of names, none twice."""
    if not isinstance(thing, tuple) or not all([is_name(name) for name in thing]):
        return False
    return len({name: True for name in thing}) == len(thing)


def _are_times(thing):
    """Whether thing is a tuple of pairs of a timeline and a time, no timeline twice."""
    if not isinstance(thing, tuple) or not all([_is_time_pair(pair) for pair in thing]):
        return False
    return len({pair[0]: True for pair in thing}) == len(thing)


def _is_time_pair(thing):
    return isinstance(thing, tuple) and len(thing) == 2 and is_name(thing[0]) and _is_maybe_number(thing[1])


def _are_changes(thing):
    """Whether thing is a tuple of changes of the style, no property of a target twice."""
    if not isinstance(thing, tuple) or not all([_is_change(change) for change in thing]):
        return False
    return len({(change[0], change[1]): True for change in thing}) == len(thing)


def _is_change(thing):
    if not isinstance(thing, tuple) or len(thing) != 3:
        return False
    return is_name(thing[0]) and is_name(thing[1]) and is_ratio(thing[2])


# Each kind is one of some words or has a test. The tests are functions of this file, so that some only call others.
WORDS = {
    "mode": ("replace", "add"),
    "going": ("anew", "on"),
    "sort": ("plain", "styled"),
}

PARTS = {
    "name": _is_name_part,
    "maybe name": _is_maybe_name,
    "player": _is_player_part,
    "number": _is_number,
    "maybe number": _is_maybe_number,
    "amount": _is_amount_part,
    "timing": _is_timing_part,
    "curve": _is_curve_part,
    "keyframes": _is_keyframes_part,
    "children": _are_children,
    "times": _are_times,
    "changes": _are_changes,
}
