"""When a player's state, or the phase or iteration of its effect, will change."""

from framecues.effects import facts_of
from framecues.endless import ENDLESS, joined
from framecues.errors import Refused
from framecues.ratios import ZERO, even_step, less, minus, negated, over, plus, times, whole


def change_ahead(player):
    """The pair of a time of the timeline and "at" or "behind"; None if nothing changes."""
    line = player.line
    if player.task is not None or line is None or line.kind != "clock" or line.moment is None:
        raise Refused("state")
    if player.condition() != "running" or player.speed == ZERO:
        return None
    found = _first_change(player)
    return None if found is None else (player.due_at(found[0]), found[1])


def _first_change(player):
    """As change_ahead, with a time of the player, which runs."""
    place = player.place()
    now = _key_at(player, place)
    stops = _stops(player)
    while True:
        stop = _nearest(stops, place, player.sign())
        found = _change_up_to(player, place, stop, now)
        if found is not None or stop is None:
            return found
        place = stop


def _key_at(player, place):
    """State, phase and iteration when the running player comes to a time."""
    state = "finished" if player.is_past(place, player.speed) else "running"
    if player.effect is None:
        return (state, "idle", None)
    facts = facts_of(player.effect, place, player.sign())
    return (state, facts[0], facts[4])


def _stops(player):
    """The times between which nothing but the iteration may change."""
    if player.effect is None:
        return [ZERO]
    spans = player.effect.spans
    delay = player.effect.timing[0]
    stops = [ZERO, delay, joined(delay, spans.active), spans.first_edge, spans.second_edge, spans.end]
    return [stop for stop in stops if stop != ENDLESS]


def _nearest(stops, place, sign):
    """The first stop behind place on the way, None if there is none."""
    nearest = None
    for stop in stops:
        if _leads(place, stop, sign) and (nearest is None or _leads(stop, nearest, sign)):
            nearest = stop
    return nearest


def _leads(place, other, sign):
    """Whether the way leads from place to another time."""
    return less(place, other) if sign == 1 else less(other, place)


def _change_up_to(player, place, stop, now):
    """The first change behind place, up to the next stop and with it."""
    sign = player.sign()
    if stop is None:
        inside = plus(place, (sign, 1))
    else:
        inside = even_step(place, stop, 1, 2)
    key = _key_at(player, inside)
    border = None
    if _is_counting(player, inside):
        iteration, border = _next_border(player.effect, place, sign)
        key = (key[0], key[1], iteration)
    if key != now:
        return (place, "behind")
    if border is not None and (stop is None or _leads(border, stop, sign)):
        return (border, "at" if sign == 1 else "behind")
    if stop is not None and _key_at(player, stop) != now:
        return (stop, "at")
    return None


def _is_counting(player, inside):
    """Whether the iteration follows the time around here."""
    node = player.effect
    if node is None or node.spans.length in (ZERO, ENDLESS):
        return False
    elapsed = facts_of(node, inside, player.sign())[1]
    return elapsed == minus(inside, node.timing[0])


def _next_border(node, place, sign):
    """The iteration just behind a time on the way, and the time at which it is left."""
    delay, first = node.timing[0], node.timing[3]
    length = node.spans.length
    overall = plus(first, over(minus(place, delay), length))
    if sign == 1:
        iteration = whole(overall)
        border = iteration + 1
    else:
        iteration = -whole(negated(overall)) - 1
        border = iteration
    return iteration, plus(delay, times(minus((border, 1), first), length))
