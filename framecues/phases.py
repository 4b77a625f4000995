"""The events of effects: what is told of their phases and iterations from one frame to the next."""

from framecues.endless import ENDLESS, joined
from framecues.ratios import minus, times
from framecues.timings import active_time, edge_times

AHEAD = ("idle", "before")


def see(scene, player):
    """Keep the events between the last frame and now, and keep what is seen now."""
    facts = player.facts()
    if player.kind != "plain":
        for word, place in _changes(player, facts):
            scene.events.append(("effect " + word, player.name, place, _due(player, word, place)))
    player.seen = (facts[0], facts[4], _full_active_time(player, facts[0]))


def _due(player, word, place):
    if word == "cancel":
        return player.line_time()
    return player.due_at(joined(player.effect.timing[0], place))


def _full_active_time(player, phase):
    """The active time as with the fill "both"."""
    if phase == "idle":
        return None
    node = player.effect
    return active_time(node.timing[0], node.spans, "both", phase, player.place())


def _changes(player, facts):
    """The pairs (word, time) of the events between the last frame and now."""
    was, iteration, elapsed = player.seen
    phase = facts[0]
    if phase == "idle":
        return [("cancel", elapsed)] if was in ("before", "active") else []
    node = player.effect
    begin, over_at = edge_times(node.timing, node.spans)
    found = []
    if player.kind == "way" and was == "idle":
        found.append(("run", begin))
    if was in AHEAD and phase in ("active", "after"):
        found.append(("start", begin))
    elif was == "after" and phase in ("before", "active"):
        found.append(("start", over_at))
    if phase == "after" and was != "after":
        found.append(("end", over_at))
    elif phase == "before" and was in ("active", "after"):
        found.append(("end", begin))
    if was == "active" and phase == "active" and iteration != facts[4] and node.spans.length != ENDLESS:
        found.append(("iteration", _iteration_time(node, iteration, facts[4])))
    return found


def _iteration_time(node, was, now):
    """The active time at the border between two iterations that was passed last."""
    border = now + 1 if now < was else now
    return times(minus((border, 1), node.timing[3]), node.spans.length)
