"""Transitions: how changes of the style are led."""

from framecues.effects import Effect, effect_value
from framecues.leading import cancel
from framecues.looking import look
from framecues.players import Player
from framecues.ratios import ONE, ZERO, less, minus, plus, times
from framecues.scenes import Run
from framecues.timings import PLAIN


def set_style(scene, changes):
    """Set these values of the style, then let transitions begin and end."""
    olds = [scene.look_of(target, name) for target, name, _ in changes]
    for target, name, value in changes:
        scene.looks[(target, name)] = value
    for at, change in enumerate(changes):
        _lead_change(scene, (change[0], change[1]), olds[at], change[2])


def _lead_change(scene, key, old, new):
    """Do what the change of a property from old to new asks for."""
    if key in scene.runs and scene.cast[scene.runs[key].player].condition() == "idle":
        del scene.runs[key]
    run = scene.runs.get(key)
    if key not in scene.ways:
        if run is not None:
            _end_run(scene, key)
        scene.reached.pop(key, None)
    elif run is not None:
        if run.last != new:
            _turn(scene, key, run, new)
    elif scene.reached.get(key) != new:
        scene.reached.pop(key, None)
        if old != new and _way_counts(scene, key):
            _begin(scene, key, old, new, old, ONE)


def _end_run(scene, key):
    """Cancel the running transition."""
    cancel(scene, scene.cast[scene.runs[key].player])
    del scene.runs[key]


def _turn(scene, key, run, new):
    """Cancel the running transition, and begin another one from its present value."""
    player = scene.cast[run.player]
    facts = player.facts()
    old = _present_value(player, run, facts)
    _end_run(scene, key)
    if old == new or not _way_counts(scene, key):
        return
    if new == run.turning:
        _begin(scene, key, old, new, run.last, _turned_factor(run, facts))
    else:
        _begin(scene, key, old, new, old, ONE)


def _present_value(player, run, facts):
    """The value of a running transition now, by the facts of its effect."""
    if facts[6] is None:
        return run.last if facts[0] == "after" else run.first
    return effect_value(player.effect, player.name[2], facts, ZERO)


def _turned_factor(run, facts):
    """The part of the length that a transition takes back to where this one was turned."""
    progress = facts[6]
    if progress is None:
        progress = ONE if facts[0] == "after" else ZERO
    factor = plus(times(progress, run.factor), minus(ONE, run.factor))
    factor = (abs(factor[0]), factor[1])
    return ONE if less(ONE, factor) else factor


def _way_counts(scene, key):
    clock, length, delay, _ = scene.ways[key]
    return scene.lines[clock].moment is not None and plus(length, delay)[0] > 0


def _begin(scene, key, first, last, turning, factor):
    """Begin a transition on the property's way."""
    target, name = key
    clock, length, delay, curve = scene.ways[key]
    if delay[0] < 0:
        delay = times(delay, factor)
    timing = (delay, ZERO, "backwards", ZERO, ONE, times(length, factor), "normal", curve)
    keyframes = ((ZERO, None, PLAIN[7], ((name, first),)), (ONE, None, PLAIN[7], ((name, last),)))
    effect = Effect(None, target, timing, keyframes, "replace", "anew")
    line = scene.lines[clock]
    player = Player(("way", target, name, scene.ways_begun), "way", line, effect)
    player.began = line.moment
    scene.ways_begun += 1
    scene.cast[player.name] = player
    scene.runs[key] = Run(player.name, first, last, turning, factor)
    look(scene, player)


def complete_runs(scene):
    """Let running transitions that are finished become completed, and forget those that are idle."""
    for key, run in list(scene.runs.items()):
        player = scene.cast[run.player]
        condition = player.condition()
        if condition in ("finished", "idle"):
            del scene.runs[key]
        if condition == "finished" and not less(player.place(), player.effect_end()):
            scene.reached[key] = run.last
