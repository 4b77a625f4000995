"""Frames: timelines get their times, and everything goes on."""

from framecues.errors import Refused
from framecues.looking import become_ready, look, settle_queue
from framecues.phases import see
from framecues.ratios import less
from framecues.transitions import complete_runs


def run_frame(scene, pairs):
    """Do a frame in which these timelines get these times."""
    _check_times(scene, pairs)
    scene.frame_count += 1
    for name, moment in pairs:
        _set_moment(scene.lines[name], moment)
    for player in list(scene.cast.values()):
        if player.task is not None and player.line_time() is not None:
            become_ready(scene, player)
        else:
            look(scene, player)
    settle_queue(scene)
    ranked = scene.ranked()
    _remove_covered(scene, ranked)
    for player in ranked:
        see(scene, player)
    _log_events(scene, ranked)
    complete_runs(scene)


def _check_times(scene, pairs):
    for name, _ in pairs:
        scene.line_of(name)
    for name, moment in pairs:
        line = scene.lines[name]
        if line.kind == "clock" and moment is not None and line.last is not None and less(moment, line.last):
            raise Refused("time")


def _set_moment(line, moment):
    line.moment = moment
    if moment is not None:
        line.last = moment


def _remove_covered(scene, ranked):
    """Remove the active players that can be replaced and whose properties are all covered by such above them."""
    covered = {}
    fallen = {}
    for player in reversed(ranked):
        if _is_replaceable(player):
            keys = [(effect.target, name) for effect in player.effect.leaves for name in effect.tracks]
            if player.mark == "active" and all([key in covered for key in keys]):
                fallen[player.name] = True
            for key in keys:
                covered[key] = True
    for player in ranked:
        if player.name in fallen:
            player.mark = "removed"
            scene.events.append(("remove", player.name, player.place(), player.line_time()))


def _is_replaceable(player):
    if player.kind != "plain" or player.mark == "removed":
        return False
    if player.line is None or player.line.kind != "clock" or player.condition() != "finished":
        return False
    facts = player.all_facts()
    return len(facts) > 0 and all([pair[1][6] is not None for pair in facts])


def _log_events(scene, ranked):
    """Tell the events that are kept, in the order of their due times and of the stack."""
    places = {player.name: at for at, player in enumerate(ranked)}
    placed = sorted([(places[event[1]], event) for event in scene.events], key=lambda pair: pair[0])
    for event in _by_due_time([event for _, event in placed]):
        scene.story.append((scene.frame_count, event))
    scene.events = []


def _by_due_time(events):
    """The events by their due times, those without one first; of equal ones the order stays."""
    found = []
    for event in events:
        at = len(found)
        while at > 0 and _is_due_ahead(event, found[at - 1]):
            at -= 1
        found.insert(at, event)
    return found


def _is_due_ahead(event, other):
    due = event[3]
    if other[3] is None:
        return False
    return due is None or less(due, other[3])
