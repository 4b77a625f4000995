"""What each row does on a scene: its names are looked at first, then states and times."""

from framecues.effects import Effect, Group, retime, uppermost
from framecues.errors import Refused
from framecues.frames import run_frame
from framecues.leading import cancel, check_loose, finish, follow, pause, play, reverse, seek, set_rate, smooth, start
from framecues.leading import use
from framecues.looking import look, settle_queue
from framecues.players import Line, Player
from framecues.transitions import set_style
from framecues.values import commit


def act(scene, row):
    """Do what a row tells; where it is refused, nothing is changed."""
    action = ACTIONS[row[0]]
    action(scene, row)


def _make_effect(scene, row):
    _, name, target, timing, keyframes, mode, going = row
    scene.check_free(name)
    scene.nodes[name] = Effect(name, target, timing, keyframes, mode, going)


def _make_group(scene, row):
    kind, name, timing, names = row
    scene.check_free(name)
    children = [scene.node_of(child) for child in names]
    for child in children:
        check_loose(child)
    scene.nodes[name] = Group(kind, name, timing, children)


def _retime(scene, row):
    node = scene.node_of(row[1])
    retime(node, row[2])
    owner = uppermost(node).owner
    if owner is not None:
        look(scene, scene.cast[owner])


def _make_line(scene, row):
    kind, name = row
    scene.check_free(name)
    scene.lines[name] = Line(name, kind)


def _make_player(scene, row):
    _, name, node_name, line_name, kind = row
    scene.check_free(name)
    node = scene.node_of(node_name)
    line = scene.line_of(line_name)
    check_loose(node)
    scene.cast[name] = Player(name, kind, line, node)
    if node is not None:
        node.owner = name


def _play(scene, row):
    play(scene, scene.player_of(row[1]))


def _pause(scene, row):
    pause(scene, scene.player_of(row[1]))


def _reverse(scene, row):
    reverse(scene, scene.player_of(row[1]))


def _finish(scene, row):
    finish(scene, scene.player_of(row[1]))


def _cancel(scene, row):
    cancel(scene, scene.player_of(row[1]))


def _seek(scene, row):
    seek(scene, scene.player_of(row[1]), row[2])


def _start(scene, row):
    start(scene, scene.player_of(row[1]), row[2])


def _rate(scene, row):
    set_rate(scene, scene.player_of(row[1]), row[2])


def _smooth(scene, row):
    smooth(scene, scene.player_of(row[1]), row[2])


def _keep(scene, row):
    player = scene.player_of(row[1])
    player.mark = "kept"


def _follow(scene, row):
    player = scene.player_of(row[1])
    line = scene.line_of(row[2])
    _check_no_way(player)
    follow(scene, player, line)


def _use(scene, row):
    player = scene.player_of(row[1])
    node = scene.node_of(row[2])
    _check_no_way(player)
    use(scene, player, node)


def _check_no_way(player):
    if player.kind == "way":
        raise Refused("state")


def _commit(scene, row):
    commit(scene, scene.player_of(row[1]))


def _frame(scene, row):
    run_frame(scene, row[1])


def _settle(scene, row):
    settle_queue(scene)


def _transit(scene, row):
    _, target, name, clock, length, delay, curve = row
    if scene.line_of(clock).kind != "clock":
        raise Refused("name")
    scene.ways[(target, name)] = (clock, length, delay, curve)


def _still(scene, row):
    scene.ways.pop((row[1], row[2]), None)


def _style(scene, row):
    set_style(scene, row[1])


ACTIONS = {
    "effect": _make_effect,
    "group": _make_group,
    "sequence": _make_group,
    "retime": _retime,
    "clock": _make_line,
    "scrolled": _make_line,
    "player": _make_player,
    "play": _play,
    "pause": _pause,
    "reverse": _reverse,
    "finish": _finish,
    "cancel": _cancel,
    "seek": _seek,
    "start": _start,
    "rate": _rate,
    "smooth": _smooth,
    "keep": _keep,
    "follow": _follow,
    "use": _use,
    "commit": _commit,
    "frame": _frame,
    "settle": _settle,
    "transit": _transit,
    "still": _still,
    "style": _style,
}
