"""Timelines and players: what they hold, and what follows from it at the present moment."""

from framecues.effects import facts_of, leaf_facts
from framecues.endless import ENDLESS, below
from framecues.ratios import ONE, ZERO, minus, over, plus, times


class Line:
    """A timeline with its time and the last time that it had."""

    def __init__(self, name, kind):
        self.name = name
        self.kind = kind
        self.moment = None
        self.last = None

    def twin(self):
        """A timeline like this one."""
        line = Line(self.name, self.kind)
        line.moment = self.moment
        line.last = self.last
        return line

    def picture(self):
        """All that tells this timeline from others."""
        return (self.name, self.kind, self.moment, self.last)


class Player:
    """A player; its kind is "plain", "styled" or "way" for a transition.

    began is its start, held its hold, speed_then its pending rate, earlier its time before, ended its finished note.
    What it saw is the phase, iteration and active time at the last frame.
    """

    def __init__(self, name, kind, line, effect):
        self.name = name
        self.kind = kind
        self.line = line
        self.effect = effect
        self.began = None
        self.held = None
        self.speed = ONE
        self.speed_then = None
        self.task = None
        self.earlier = None
        self.ready = "settled"
        self.ended = "open"
        self.mark = "active"
        self.seen = ("idle", None, None)

    def twin_on(self, line, effect):
        """A player like this one, on these."""
        player = Player(self.name, self.kind, line, effect)
        player.began = self.began
        player.held = self.held
        player.speed = self.speed
        player.speed_then = self.speed_then
        player.task = self.task
        player.earlier = self.earlier
        player.ready = self.ready
        player.ended = self.ended
        player.mark = self.mark
        player.seen = self.seen
        return player

    def line_time(self):
        """The time of the timeline."""
        return None if self.line is None else self.line.moment

    def effect_end(self):
        """The end of the effect."""
        return ZERO if self.effect is None else self.effect.spans.end

    def speed_ahead(self):
        """The pending rate, or without one the rate."""
        return self.speed if self.speed_then is None else self.speed_then

    def free_time(self):
        """What the time would be without a hold."""
        moment = self.line_time()
        if moment is None or self.began is None:
            return None
        return times(minus(moment, self.began), self.speed)

    def place(self):
        """The time."""
        return self.free_time() if self.held is None else self.held

    def condition(self):
        """The state."""
        place = self.place()
        if place is None and self.began is None and self.task is None:
            return "idle"
        if self.task == "pause" or (self.began is None and self.task is None):
            return "paused"
        if place is not None and self.is_past(place, self.speed_ahead()):
            return "finished"
        return "running"

    def is_past(self, place, speed):
        """Whether a time is at or past the end of the way on which this rate leads."""
        if speed[0] > 0:
            return not below(place, self.effect_end())
        return speed[0] < 0 and place[0] <= 0

    def sign(self):
        """The sign of the effect."""
        return -1 if self.speed[0] < 0 else 1

    def facts(self):
        """What [6] tells of the effect; it is idle if there is none."""
        if self.effect is None:
            return ("idle", None, None, None, None, None, None)
        return facts_of(self.effect, self.place(), self.sign())

    def all_facts(self):
        """The pairs (effect, facts) of the effects with a target, in order."""
        if self.effect is None:
            return []
        return leaf_facts(self.effect, self.place(), self.sign())

    def goal(self):
        """The time to which the rate leads: the end, or 0 on a way that does not lead forwards."""
        return self.effect_end() if self.speed[0] > 0 else ZERO

    def due_at(self, place):
        """The time of the timeline at which the player has a time, None if there is no such moment."""
        if self.began is None or self.speed == ZERO or place == ENDLESS:
            return None
        return plus(self.began, over(place, self.speed))

    def whole_state(self, queued):
        """The full state; queued is 1 if a finish is queued, otherwise 0."""
        head = (self.began, self.held, self.speed, self.speed_then, self.task, self.earlier, self.ready, self.ended)
        line_name = None if self.line is None else self.line.name
        effect_name = None if self.effect is None else self.effect.name
        return head + (queued, self.mark, line_name, effect_name) + self.seen
