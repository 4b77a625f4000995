"""Effects, groups and sequences: how times lead down the tree, and what an effect makes of a value."""

from framecues.endless import ENDLESS, greater, joined
from framecues.keyframes import track_value, tracks_of
from framecues.ratios import ZERO, minus, times
from framecues.timings import Spans, direction, facts_at


class Node:
    """What effects and groups have in common.

    The owner is the name of the player that leads it; only what has no parent has one.
    """

    def __init__(self, name, timing):
        self.name = name
        self.timing = timing
        self.parent = None
        self.owner = None
        self.spans = None


class Effect(Node):
    """An effect on a target; that of a transition has no name."""

    def __init__(self, name, target, timing, keyframes, mode, going):
        super().__init__(name, timing)
        self.target = target
        self.keyframes = keyframes
        self.mode = mode
        self.going = going
        self.tracks = tracks_of(keyframes)
        self.leaves = [self]
        measure(self)

    def twin(self):
        """An effect like this one that belongs to nothing yet."""
        return Effect(self.name, self.target, self.timing, self.keyframes, self.mode, self.going)

    def own_length(self):
        """The length where the timing tells none."""
        return ZERO

    def picture(self):
        """All that tells this effect from others."""
        return (self.name, self.target, self.timing, self.keyframes, self.mode, self.going)


class Group(Node):
    """A group or a sequence; its kind tells which."""

    def __init__(self, kind, name, timing, children):
        super().__init__(name, timing)
        self.kind = kind
        self.children = children
        self.leaves = []
        for child in children:
            child.parent = self
            self.leaves.extend(child.leaves)
        measure(self)

    def twin_over(self, nodes):
        """A group like this one, whose children are those of nodes."""
        return Group(self.kind, self.name, self.timing, [nodes[child.name] for child in self.children])

    def own_length(self):
        """The length where the timing tells none."""
        length = ZERO
        for child in self.children:
            if self.kind == "sequence":
                length = joined(length, child.spans.end)
            else:
                length = greater(length, child.spans.end)
        return length

    def picture(self):
        """All that tells this group from others."""
        return (self.kind, self.name, self.timing, [child.name for child in self.children])


def measure(node):
    """Work out the spans of a node from its timing and its children."""
    length = node.timing[5]
    node.spans = Spans(node.timing, node.own_length() if length is None else length)


def retime(node, timing):
    """Give a node another timing, and look what follows for the groups around it."""
    node.timing = timing
    while node is not None:
        measure(node)
        node = node.parent


def uppermost(node):
    """The node itself or the uppermost group around it."""
    while node.parent is not None:
        node = node.parent
    return node


def facts_of(node, time, sign):
    """What [6] tells of a node at a local time."""
    return facts_at(node.timing, node.spans, time, sign)


def child_moments(group, time, sign):
    """The local time and the sign of each child of a group at a local time of the group."""
    facts = facts_of(group, time, sign)
    if facts[6] is None:
        return [(None, sign) for child in group.children]
    if group.spans.length == ENDLESS:
        place = facts[1]
    else:
        place = times(facts[6], group.spans.length)
        sign = sign * direction(group.timing, facts[4])
    if group.kind == "group":
        return [(place, sign) for child in group.children]
    return _moments_in_a_row(group.children, place, sign)


def _moments_in_a_row(children, place, sign):
    moments = []
    ahead = ZERO
    for child in children:
        moments.append((None if ahead == ENDLESS else minus(place, ahead), sign))
        ahead = joined(ahead, child.spans.end)
    return moments


def moment_below(node, time, sign):
    """The local time and sign of a node, when the uppermost group around it has this time and sign."""
    group = node.parent
    if group is None:
        return time, sign
    time, sign = moment_below(group, time, sign)
    moments = child_moments(group, time, sign)
    for at, child in enumerate(group.children):
        if child.name == node.name:
            time, sign = moments[at]
    return time, sign


def leaf_facts(node, time, sign):
    """The pairs (effect, facts) of the effects with a target in a node, from left to right."""
    if not isinstance(node, Group):
        return [(node, facts_of(node, time, sign))]
    found = []
    moments = child_moments(node, time, sign)
    for at, child in enumerate(node.children):
        child_time, child_sign = moments[at]
        found.extend(leaf_facts(child, child_time, child_sign))
    return found


def effect_value(effect, name, facts, beneath):
    """What an effect that is in effect makes of the value beneath, for a property that it has."""
    rounds = 0
    if effect.going == "on" and facts[4] != ENDLESS:
        rounds = facts[4]
    return track_value(effect.tracks[name], effect.mode, rounds, facts[6], beneath)
