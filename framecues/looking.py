"""What players do when their times change: holds, finished notes, and what is told of them."""

from framecues.endless import greater, lesser
from framecues.ratios import ZERO, minus, over


def look(scene, player, sought=False, at_once=False):
    """Hold a player at the end of its way or let it go, then see whether it is finished."""
    place = player.place() if sought else player.free_time()
    if place is not None and player.began is not None and player.task is None:
        _hold_or_let_go(player, place, sought)
    player.earlier = player.place()
    finished = player.condition() == "finished"
    if finished and player.ended == "open":
        if at_once:
            tell_finished(scene, player)
            forget_queued(scene, player)
        elif player.name not in scene.queue:
            scene.queue.append(player.name)
    elif not finished and player.ended == "settled":
        player.ended = "open"


def _hold_or_let_go(player, place, sought):
    speed = player.speed
    if player.is_past(place, speed):
        player.held = place if sought else _furthest(player)
    elif speed[0] != 0:
        moment = player.line_time()
        if sought and player.held is not None and moment is not None:
            player.began = minus(moment, over(player.held, speed))
        player.held = None


def _furthest(player):
    """The end of the way, or the time before if that is still further."""
    goal = player.goal()
    if player.earlier is None:
        return goal
    if player.speed[0] > 0:
        return greater(goal, player.earlier)
    return lesser(goal, player.earlier)


def set_time(player, place):
    """Lead a player to a time, by its hold or its start."""
    moment = player.line_time()
    if player.held is not None or player.began is None or moment is None or player.speed == ZERO:
        player.held = place
    else:
        player.began = minus(moment, over(place, player.speed))
    if moment is None:
        player.began = None
    player.earlier = None


def apply_speed(player):
    """Let the pending rate become the rate."""
    if player.speed_then is not None:
        player.speed = player.speed_then
        player.speed_then = None


def tell_ready(scene, player):
    """Settle the ready note."""
    player.ready = "settled"
    scene.said.append(("ready", player.name))


def tell_finished(scene, player):
    """Settle the finished note and keep a finish event."""
    player.ended = "settled"
    scene.said.append(("finished", player.name))
    scene.events.append(("finish", player.name, player.place(), player.due_at(player.goal())))


def forget_queued(scene, player):
    """Let there be no queued finish of a player."""
    if player.name in scene.queue:
        scene.queue.remove(player.name)


def settle_queue(scene):
    """Do the queued finishes."""
    queue = scene.queue
    scene.queue = []
    for name in queue:
        player = scene.cast[name]
        if player.condition() == "finished":
            tell_finished(scene, player)


def become_ready(scene, player):
    """Do the pending task; the timeline has a time."""
    if player.task == "play":
        _begin_play(player)
    else:
        _begin_pause(player)
    player.task = None
    tell_ready(scene, player)
    look(scene, player)


def _begin_play(player):
    moment = player.line_time()
    if player.held is not None:
        apply_speed(player)
        player.began = began_at(moment, player.held, player.speed)
        if player.speed != ZERO:
            player.held = None
    elif player.speed_then is not None:
        place = player.free_time()
        apply_speed(player)
        if player.speed == ZERO:
            player.held = place
        player.began = began_at(moment, place, player.speed)


def began_at(moment, place, speed):
    """The start with which a rate leads to a time at this moment of the timeline."""
    if speed == ZERO:
        return moment
    return minus(moment, over(place, speed))


def _begin_pause(player):
    if player.began is not None and player.held is None:
        player.held = player.free_time()
    apply_speed(player)
    player.began = None
