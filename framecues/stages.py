"""Stages: they are led by rows and answer questions."""

from framecues.actions import act
from framecues.changes import change_ahead
from framecues.effects import facts_of, moment_below, uppermost
from framecues.errors import NoName, NoRow
from framecues.names import is_name, is_player_name
from framecues.rows import is_row
from framecues.scenes import Scene
from framecues.values import stack_names, stack_value


class Stage:
    """Effects, timelines, players and styles, and all that happens to them."""

    def __init__(self):
        self._scene = Scene()

    def __eq__(self, other):
        return isinstance(other, Stage) and self._scene.picture() == other._scene.picture()

    def do(self, row):
        """Do what a row tells."""
        if not is_row(row):
            raise NoRow("this is no row")
        act(self._scene, row)
        self._scene.done.append(row)

    def time(self, player):
        """The time of a player, None if it has none."""
        return self._player(player).place()

    def state(self, player):
        """The state of a player: "idle", "paused", "finished" or "running"."""
        return self._player(player).condition()

    def rates(self, player):
        """The rate and the pending rate or None."""
        found = self._player(player)
        return (found.speed, found.speed_then)

    def pending(self, player):
        """The pending task: "play", "pause" or None."""
        return self._player(player).task

    def marks(self, player):
        """The ready note, the finished note, and whether the player is active, kept or removed."""
        found = self._player(player)
        return (found.ready, found.ended, found.mark)

    def start(self, player):
        """The start of a player, None if it has none."""
        return self._player(player).began

    def hold(self, player):
        """The hold of a player, None if it has none."""
        return self._player(player).held

    def told(self, name):
        """What told_at tells of an effect or group at its present local time."""
        if not is_name(name) or name not in self._scene.nodes:
            raise NoName("no effect or group has this name")
        node = self._scene.nodes[name]
        owner = uppermost(node).owner
        if owner is None:
            return facts_of(node, None, 1)
        player = self._scene.cast[owner]
        time, sign = moment_below(node, player.place(), player.sign())
        return facts_of(node, time, sign)

    def now(self, timeline):
        """The time of a timeline, None if it has none."""
        if not is_name(timeline) or timeline not in self._scene.lines:
            raise NoName("no timeline has this name")
        return self._scene.lines[timeline].moment

    def value(self, target, name):
        """The value of a property of a target now."""
        _check_names(target, name)
        return stack_value(self._scene, target, name)

    def style(self, target, name):
        """The value that the style has for a property of a target."""
        _check_names(target, name)
        return self._scene.look_of(target, name)

    def stack(self, target, name):
        """The names of the effects that make the value, from the lowest on."""
        _check_names(target, name)
        return stack_names(self._scene, target, name)

    def transition(self, target, name):
        """The name of the running transition or None, and the completed value or None."""
        _check_names(target, name)
        run = self._scene.runs.get((target, name))
        return (None if run is None else run.player, self._scene.reached.get((target, name)))

    def notes(self):
        """The notes so far."""
        return list(self._scene.said)

    def log(self):
        """The events that frames have told so far, each with the number of its frame."""
        return list(self._scene.story)

    def frames(self):
        """The number of frames so far."""
        return self._scene.frame_count

    def waiting(self):
        """The events that are kept for the next frame."""
        return list(self._scene.events)

    def players(self):
        """The names of the players in the order of making, those of transitions among them."""
        return list(self._scene.cast)

    def full(self, player):
        """The full state of a player."""
        return self._scene.full(self._player(player))

    def copy(self):
        """A stage like this one, which goes its own way."""
        stage = Stage()
        stage._scene = self._scene.twin()
        return stage

    def next_change(self, player):
        """When the player's state, or its effect's phase or iteration, changes if nobody calls; None if never."""
        return change_ahead(self._player(player))

    def rows(self):
        """All rows that were done."""
        return list(self._scene.done)

    def _player(self, name):
        if not is_player_name(name) or name not in self._scene.cast:
            raise NoName("no player has this name")
        return self._scene.cast[name]


def _check_names(target, name):
    if not is_name(target) or not is_name(name):
        raise NoName("this is no name")


def replayed(rows):
    """A stage to which these rows are told."""
    if not isinstance(rows, list):
        raise NoRow("the rows are no list")
    stage = Stage()
    for row in rows:
        stage.do(row)
    return stage
