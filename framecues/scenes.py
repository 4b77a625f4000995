"""Scenes: all that a stage holds."""

from framecues.effects import Group
from framecues.errors import Refused
from framecues.ratios import ZERO


class Run:
    """A running transition: the name of its player, its first and last value, its turning value and its factor."""

    def __init__(self, player, first, last, turning, factor):
        self.player = player
        self.first = first
        self.last = last
        self.turning = turning
        self.factor = factor

    def picture(self):
        """All that tells this transition from others."""
        return (self.player, self.first, self.last, self.turning, self.factor)


class Scene:
    """What a stage holds.

    Things stand by their names in the order of making. A pair of a target and a property leads to its value in
    style, to its way in ways, to its running transition in runs and to its completed value in reached. The queue
    has the names of players whose finish is queued, events are those that are kept for the next frame, and said,
    story and done are the notes, the log and the rows so far.
    """

    def __init__(self):
        self.lines = {}
        self.nodes = {}
        self.cast = {}
        self.looks = {}
        self.ways = {}
        self.runs = {}
        self.reached = {}
        self.ways_begun = 0
        self.queue = []
        self.events = []
        self.said = []
        self.story = []
        self.done = []
        self.frame_count = 0

    def check_free(self, name):
        """Refuse a name that something has."""
        if name in self.lines or name in self.nodes or name in self.cast:
            raise Refused("name")

    def player_of(self, name):
        """The player with this name."""
        if name not in self.cast:
            raise Refused("name")
        return self.cast[name]

    def line_of(self, name):
        """The timeline with this name; None has none."""
        if name is None:
            return None
        if name not in self.lines:
            raise Refused("name")
        return self.lines[name]

    def node_of(self, name):
        """The effect or group with this name; None has none."""
        if name is None:
            return None
        if name not in self.nodes:
            raise Refused("name")
        return self.nodes[name]

    def ranked(self):
        """The players in the order of the stack, from the lowest on."""
        cast = list(self.cast.values())
        ways = [player for player in cast if player.kind == "way"]
        styled = [player for player in cast if player.kind == "styled"]
        return ways + styled + [player for player in cast if player.kind == "plain"]

    def look_of(self, target, name):
        """The value that the style has."""
        return self.looks.get((target, name), ZERO)

    def full(self, player):
        """The full state of a player."""
        return player.whole_state(1 if player.name in self.queue else 0)

    def twin(self):
        """A scene like this one that goes its own way."""
        scene = Scene()
        lines = {name: line.twin() for name, line in self.lines.items()}
        nodes = _twin_nodes(self.nodes)
        scene.lines = lines
        scene.nodes = nodes
        scene.cast = {name: _twin_player(player, lines, nodes) for name, player in self.cast.items()}
        scene.looks = {key: look for key, look in self.looks.items()}
        scene.ways = {key: way for key, way in self.ways.items()}
        # Running transitions are never changed, so that all scenes may share them.
        scene.runs = {key: run for key, run in self.runs.items()}
        scene.reached = {key: value for key, value in self.reached.items()}
        scene.ways_begun = self.ways_begun
        scene.queue = list(self.queue)
        scene.events = list(self.events)
        scene.said = list(self.said)
        scene.story = list(self.story)
        scene.done = list(self.done)
        scene.frame_count = self.frame_count
        return scene

    def picture(self):
        """All that counts for what happens later."""
        return (
            [line.picture() for line in self.lines.values()],
            [node.picture() for node in self.nodes.values()],
            [(player.name, player.kind, self.full(player)) for player in self.cast.values()],
            [player.effect.picture() for player in self.cast.values() if player.kind == "way"],
            {key: look for key, look in self.looks.items() if look != ZERO},
            self.ways,
            {key: run.picture() for key, run in self.runs.items()},
            self.reached,
            self.ways_begun,
            self.queue,
            self.events,
        )


def _twin_nodes(nodes):
    """Effects and groups like these; children stand ahead of their groups."""
    twins = {}
    for name, node in nodes.items():
        twin = node.twin_over(twins) if isinstance(node, Group) else node.twin()
        twin.owner = node.owner
        twins[name] = twin
    return twins


def _twin_player(player, lines, nodes):
    """A player like this one, on these timelines and effects."""
    line = None if player.line is None else lines[player.line.name]
    effect = player.effect
    # The effect of a transition has no name; as it never changes, all scenes may share it.
    if effect is not None and effect.name is not None:
        effect = nodes[effect.name]
    return player.twin_on(line, effect)
