"""Keyframes: the values of properties along the progress of an effect."""

from framecues.curves import curve_value, is_curve
from framecues.names import is_name, is_word
from framecues.ratios import ONE, ZERO, is_ratio, less, minus, over, plus, spread_evenly, times
from framecues.timings import PLAIN


def is_keyframes(thing):
    """Whether thing is a tuple of keyframes whose told offsets do not fall."""
    if not isinstance(thing, tuple) or len(thing) == 0:
        return False
    if not all([_is_frame(frame) for frame in thing]):
        return False
    offsets = [frame[0] for frame in thing if frame[0] is not None]
    return not any([less(offsets[at], offsets[at - 1]) for at in range(1, len(offsets))])


def _is_frame(thing):
    if not isinstance(thing, tuple) or len(thing) != 4:
        return False
    offset, mode, curve, pairs = thing
    if offset is not None and not _is_offset(offset):
        return False
    if mode is not None and not is_word(mode, ("replace", "add")):
        return False
    return is_curve(curve) and _are_pairs(pairs)


def _is_offset(thing):
    return is_ratio(thing) and 0 <= thing[0] <= thing[1]


def _are_pairs(thing):
    if not isinstance(thing, tuple) or len(thing) == 0:
        return False
    names = {}
    for pair in thing:
        if not isinstance(pair, tuple) or len(pair) != 2 or not is_name(pair[0]) or not is_ratio(pair[1]):
            return False
        names[pair[0]] = True
    return len(names) == len(thing)


def settled_offsets(keyframes):
    """The offsets, all told."""
    offsets = [frame[0] for frame in keyframes]
    if offsets[-1] is None:
        offsets[-1] = ONE
    if offsets[0] is None:
        offsets[0] = ZERO
    return spread_evenly(offsets)


def tracks_of(keyframes):
    """For each property its track.

    A track is a tuple (frames, growth): frames are (offset, mode, curve, value) from the offset 0 to 1, growth
    is what each iteration adds if an effect goes on.
    """
    offsets = settled_offsets(keyframes)
    found = {}
    for at, frame in enumerate(keyframes):
        for name, value in frame[3]:
            if name not in found:
                found[name] = []
            found[name].append((offsets[at], frame[1], frame[2], value))
    return {name: _whole_track(found[name]) for name in found}


def _whole_track(frames):
    growth = ZERO
    if frames[0][0] != ZERO:
        frames = [(ZERO, "add", PLAIN[7], ZERO)] + frames
    if frames[-1][0] == ONE:
        growth = frames[-1][3]
    else:
        frames = frames + [(ONE, "add", PLAIN[7], ZERO)]
    return (tuple(frames), growth)


def track_value(track, mode, rounds, progress, beneath):
    """The value at a progress; mode is that of frames without one, rounds tells how often the track has grown."""
    frames, growth = track
    grown = times(growth, (rounds, 1))
    first, second = _stretch(frames, progress)
    value = _end_value(frames[first], mode, grown, beneath)
    if first == second:
        return value
    goal = _end_value(frames[second], mode, grown, beneath)
    offset = frames[first][0]
    part = over(minus(progress, offset), minus(frames[second][0], offset))
    weight = curve_value(frames[first][2], part, False)
    return plus(value, times(minus(goal, value), weight))


def _stretch(frames, progress):
    """The indexes of the two frames around a progress, the same one twice if it stands alone."""
    if progress[0] < 0 and frames[1][0] == ZERO:
        return 0, 0
    last = len(frames) - 1
    if not less(progress, ONE) and frames[last - 1][0] == ONE:
        return last, last
    first = 0
    for at in range(1, last):
        if not less(progress, frames[at][0]):
            first = at
    return first, first + 1


def _end_value(frame, mode, grown, beneath):
    value = plus(frame[3], grown)
    if (mode if frame[1] is None else frame[1]) == "add":
        return plus(value, beneath)
    return value
