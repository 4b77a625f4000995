"""The rows that lead players."""

from framecues.endless import ENDLESS, below
from framecues.errors import Refused
from framecues.looking import apply_speed, began_at, forget_queued, look, set_time, tell_ready
from framecues.ratios import ZERO, negated


def seek(scene, player, place):
    """Lead a player to a time."""
    if place is None:
        if player.place() is not None:
            raise Refused("time")
        return
    set_time(player, place)
    if player.task == "pause":
        player.held = place
        apply_speed(player)
        player.began = None
        player.task = None
        tell_ready(scene, player)
    look(scene, player, True)


def start(scene, player, moment):
    """Give a player a start, or take it away."""
    if player.line_time() is None and moment is not None:
        player.held = None
    place = player.place()
    apply_speed(player)
    player.began = moment
    if moment is None:
        player.held = place
    elif player.speed != ZERO:
        player.held = None
    if player.task is not None:
        player.task = None
        tell_ready(scene, player)
    look(scene, player, True)


def play(scene, player):
    """Play a player, from the other end of its way if it is not on it."""
    _play_from(scene, player, _rewound(player, player.speed_ahead()))


def reverse(scene, player):
    """Turn the rate about and play."""
    if player.line_time() is None:
        raise Refused("state")
    speed = negated(player.speed_ahead())
    hold = _rewound(player, speed)
    player.speed_then = speed
    _play_from(scene, player, hold)


def _rewound(player, speed):
    """The hold with which a player begins anew at this rate; None if it goes on where it is."""
    place = player.place()
    end = player.effect_end()
    if speed[0] > 0:
        return ZERO if place is None or place[0] < 0 or not below(place, end) else None
    if speed[0] == 0:
        return ZERO if place is None else None
    if place is not None and place[0] > 0 and not below(end, place):
        return None
    if end == ENDLESS:
        raise Refused("state")
    return end


def _play_from(scene, player, hold):
    if hold is not None:
        player.held = hold
    if player.held is not None:
        player.began = None
    task = player.task
    player.task = None
    if player.held is None and task != "pause" and player.speed_then is None:
        return
    if task is None:
        player.ready = "open"
    player.task = "play"
    look(scene, player)


def pause(scene, player):
    """Pause a player."""
    if player.condition() == "paused":
        return
    if player.place() is None:
        goal = player.effect_end() if player.speed[0] < 0 else ZERO
        if goal == ENDLESS:
            raise Refused("state")
        player.held = goal
    if player.task is None:
        player.ready = "open"
    player.task = "pause"
    look(scene, player)


def finish(scene, player):
    """Lead a player to the end of its way at once."""
    speed = player.speed_ahead()
    if speed == ZERO or (speed[0] > 0 and player.effect_end() == ENDLESS):
        raise Refused("state")
    apply_speed(player)
    goal = player.goal()
    set_time(player, goal)
    moment = player.line_time()
    if player.began is None and moment is not None:
        player.began = began_at(moment, goal, player.speed)
    if player.task is not None and player.began is not None:
        if player.task == "pause":
            player.held = None
        player.task = None
        tell_ready(scene, player)
    look(scene, player, True, True)


def cancel(scene, player):
    """Let a player be idle."""
    if player.condition() != "idle":
        if player.task is not None:
            player.task = None
            apply_speed(player)
            scene.said.append(("ready refused", player.name))
            player.ready = "settled"
        if player.ended == "open":
            scene.said.append(("finished refused", player.name))
        player.ended = "open"
        forget_queued(scene, player)
        scene.events.append(("cancel", player.name, None, player.line_time()))
    player.held = None
    player.began = None


def set_rate(scene, player, speed):
    """Change the rate at once; the time stays."""
    player.speed_then = None
    place = player.place()
    player.speed = speed
    if place is not None:
        seek(scene, player, place)


def smooth(scene, player, speed):
    """Change the rate without moving a running player."""
    condition = player.condition()
    player.speed_then = speed
    if player.task is not None:
        return
    if condition == "running":
        _play_from(scene, player, None)
        return
    if condition == "finished":
        place = player.free_time()
        moment = player.line_time()
        if moment is not None:
            player.began = began_at(moment, ZERO if place is None else place, speed)
        apply_speed(player)
        look(scene, player)
        return
    apply_speed(player)


def follow(scene, player, line):
    """Let a player go by another timeline, or by none."""
    if _name_of(line) == _name_of(player.line):
        return
    player.line = line
    if player.began is not None:
        player.held = None
    look(scene, player)


def use(scene, player, node):
    """Let a player lead another effect or group, or none."""
    if _name_of(node) == _name_of(player.effect):
        return
    check_loose(node)
    old = player.effect
    if old is not None:
        old.owner = None
    player.effect = node
    if node is not None:
        node.owner = player.name
    look(scene, player)


def check_loose(node):
    """Refuse an effect or group that has a parent or a player."""
    if node is not None and (node.parent is not None or node.owner is not None):
        raise Refused("state")


def _name_of(thing):
    return None if thing is None else thing.name
