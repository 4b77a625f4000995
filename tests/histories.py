"""Histories of rows drawn by a seeded generator, and two stages led by them side by side."""

import random
from fractions import Fraction

from framecues.errors import NoRow, Refused
from framecues.stages import Stage
from framecues.timings import PLAIN
from model import Model, No
from reckoning import told

STRAIGHT = PLAIN[7]
TARGETS = ("box", "dot")
PROPERTIES = ("x", "y")


class Draw:
    """Rows drawn at random; what they name is mostly there."""

    # The parts of all rows: up to lead a row for a player, up to frame a frame, and so on.
    LEAD, FRAME, STYLE, TRANSIT, STILL, RETIME, SETTLE = 0.42, 0.72, 0.77, 0.80, 0.81, 0.84, 0.85

    def __init__(self, seed):
        self.random = random.Random(seed)
        self.effects, self.lines, self.players = [], [], []
        self.clocks = []
        self.moment = Fraction(0)
        self.count = 0

    def one(self, things):
        return self.random.choice(things)

    def chance(self, part):
        return self.random.random() < part

    def number(self, low, high):
        return told(Fraction(self.random.randint(low * 2, high * 2), self.one((1, 2, 2, 3, 4))))

    def amount(self, high):
        return self.number(0, high)

    def new_name(self, letter):
        self.count += 1
        return letter + chr(97 + self.count // 26) + chr(97 + self.count % 26)

    def name(self, things):
        return self.one(things) if things and not self.chance(0.02) else "nothing"

    def curve(self):
        kind = self.random.randint(0, 9)
        if kind < 5:
            return STRAIGHT
        if kind < 7:
            points = []
            for _ in range(self.random.randint(1, 4)):
                points.append((self.number(-1, 2), None if self.chance(0.5) else self.number(0, 1)))
            return ("linear", tuple(points))
        if kind < 8:
            return ("cubic", self.number(-1, 2), self.number(-1, 2))
        return ("steps", self.random.randint(2, 4), self.one(("start", "end", "none", "both")))

    def timing(self):
        zero, one = (0, 1), (1, 1)
        delay = zero if self.chance(0.5) else self.number(-4, 4)
        behind = zero if self.chance(0.6) else self.number(-4, 4)
        fill = self.one(("none", "forwards", "backwards", "both", "both"))
        first = zero if self.chance(0.6) else self.one(((1, 2), (1, 1), (3, 2), (2, 1), (1, 3)))
        times = one if self.chance(0.4) else self.one(((0, 1), (2, 1), (3, 1), (5, 2), (1, 2), "endless"))
        length = self.one(((10, 1), (4, 1), (2, 1), (3, 2), None, (0, 1), "endless", (4, 1), (6, 1), None))
        way = self.one(("normal", "normal", "reverse", "alternate", "alternate reverse"))
        return (delay, behind, fill, first, times, length, way, self.curve())

    def keyframes(self):
        count = self.random.randint(1, 4)
        offsets = sorted(self.random.choice((0, 0, 0.25, 0.5, 0.75, 1, 1)) for _ in range(count))
        frames = []
        for offset in offsets:
            names = self.random.sample(PROPERTIES, self.random.randint(1, 2))
            pairs = tuple((name, self.number(-3, 9)) for name in names)
            place = None if self.chance(0.4) else told(Fraction(offset))
            frames.append((place, self.one((None, None, "replace", "add")), self.curve(), pairs))
        return tuple(frames)

    def make_effect(self):
        name = self.name(self.effects) if self.chance(0.03) else self.new_name("e")
        mode, going = self.one(("replace", "add")), self.one(("anew", "on"))
        self.effects.append(name)
        return ("effect", name, self.one(TARGETS), self.timing(), self.keyframes(), mode, going)

    def make_group(self):
        name = self.new_name("g")
        count = min(len(self.effects), self.random.randint(0, 3))
        children = tuple(self.random.sample(sorted(set(self.effects)), min(count, len(set(self.effects)))))
        timing = self.timing()
        if self.chance(0.5):
            timing = timing[:5] + (None,) + timing[6:]
        self.effects.append(name)
        return (self.one(("group", "sequence")), name, timing, children)

    def make_line(self):
        name = self.new_name("c")
        self.lines.append(name)
        if self.chance(0.3):
            return ("scrolled", name)
        self.clocks.append(name)
        return ("clock", name)

    def make_player(self):
        name = self.new_name("p")
        effect = None if self.chance(0.1) else self.name(self.effects)
        line = None if self.chance(0.1) else self.name(self.clocks if self.chance(0.7) else self.lines)
        self.players.append(name)
        return ("player", name, effect, line, self.one(("plain", "plain", "styled")))

    def frame(self):
        self.moment += Fraction(self.random.randint(0, 6), self.one((1, 2, 4)))
        pairs = []
        for line in self.lines:
            kind = self.random.random()
            if kind < 0.75:
                pairs.append((line, told(self.moment)))
            elif kind < 0.8:
                pairs.append((line, None))
            elif kind < 0.85:
                pairs.append((line, told(self.moment - self.random.randint(0, 4))))
        return ("frame", tuple(pairs))

    def lead(self):
        word = self.one("""play play pause reverse finish cancel seek seek start rate rate smooth smooth keep follow use
            commit""".split())
        player = self.name(self.players)
        if word in ("seek", "start"):
            return (word, player, None if self.chance(0.1) else self.number(-6, 20))
        if word in ("rate", "smooth"):
            return (word, player, self.one(((1, 1), (2, 1), (-1, 1), (-1, 2), (0, 1), (1, 3), (-3, 1))))
        if word == "follow":
            return (word, player, None if self.chance(0.1) else self.name(self.lines))
        if word == "use":
            return (word, player, None if self.chance(0.1) else self.name(self.effects))
        return (word, player)

    def style(self):
        changes = {}
        for _ in range(self.random.randint(0, 2)):
            changes[(self.one(TARGETS), self.one(PROPERTIES))] = self.one(((0, 1), (10, 1), (4, 1), self.number(-3, 9)))
        return ("style", tuple(key + (value,) for key, value in changes.items()))

    def transit(self):
        delay = (0, 1) if self.chance(0.5) else self.number(-4, 4)
        where = (self.one(TARGETS), self.one(PROPERTIES))
        return ("transit",) + where + (self.name(self.clocks), self.amount(8), delay, self.curve())

    def beginning(self):
        rows = [self.make_line()]
        rows += [self.make_effect() for _ in range(self.random.randint(1, 4))]
        rows += [self.make_group() for _ in range(self.random.randint(0, 2))]
        rows += [self.make_player() for _ in range(self.random.randint(1, 3))]
        return rows

    def row(self):
        kind = self.random.random()
        if kind < self.LEAD:
            return self.lead()
        if kind < self.FRAME:
            return self.frame()
        if kind < self.STYLE:
            return self.style()
        if kind < self.TRANSIT:
            return self.transit()
        if kind < self.STILL:
            return ("still", self.one(TARGETS), self.one(PROPERTIES))
        if kind < self.RETIME:
            return ("retime", self.name(self.effects), self.timing())
        if kind < self.SETTLE:
            return ("settle",)
        makers = (self.make_effect, self.make_effect, self.make_group, self.make_player, self.make_player, self.make_line)
        return self.one(makers)()

    def see_ways(self, stage):
        """Let players of transitions be led, too."""
        for name in stage.players():
            if isinstance(name, tuple) and name not in self.players:
                self.players.append(name)


class Calm(Draw):
    """Players on one clock that mostly goes on, with repeated effects on few properties."""

    LEAD, FRAME, STYLE, TRANSIT, STILL, RETIME, SETTLE = 0.3, 0.86, 0.87, 0.87, 0.87, 0.9, 0.91

    def timing(self):
        delay = (0, 1) if self.chance(0.6) else self.number(-5, 5)
        behind = (0, 1) if self.chance(0.7) else self.number(-5, 5)
        fill = self.one(("none", "forwards", "both", "both"))
        first = (0, 1) if self.chance(0.7) else self.one(((1, 2), (1, 1), (1, 3)))
        times = self.one(((1, 1), (2, 1), (3, 1), (5, 2), "endless"))
        length = self.one(((4, 1), (2, 1), (3, 2), None, (3, 1)))
        return (delay, behind, fill, first, times, length, self.one(("normal", "alternate")), self.curve())

    def keyframes(self):
        names = self.random.sample(PROPERTIES, self.random.randint(1, 2))
        modes = (None, "add")
        return tuple((None, self.one(modes), STRAIGHT, tuple((name, self.amount(9)) for name in names)) for _ in "ab")

    def beginning(self):
        self.lines, self.clocks = ["clock"], ["clock"]
        rows = [("clock", "clock"), ("frame", (("clock", (0, 1)),))]
        for _ in range(self.random.randint(2, 4)):
            rows.append(self.make_effect())
        if self.chance(0.5):
            rows.append(self.make_group())
        for name in sorted(set(self.effects)):
            player = self.new_name("p")
            self.players.append(player)
            rows.append(("player", player, name, "clock", self.one(("plain", "plain", "styled"))))
            rows.append(("play", player))
        return rows

    def frame(self):
        self.moment += Fraction(self.random.randint(0, 6), self.one((1, 2, 4)))
        return ("frame", (("clock", told(self.moment)),)) if self.chance(0.95) else ("frame", ())


class Ways(Draw):
    """Styles that change to and fro, with transitions that are led by rows now and then."""

    LEAD, FRAME, STYLE, TRANSIT, STILL, RETIME, SETTLE = 0.15, 0.55, 0.9, 0.96, 0.97, 0.97, 0.98

    def beginning(self):
        self.lines, self.clocks, self.players = ["clock"], ["clock"], []
        rows = [("clock", "clock")]
        rows += [self.transit() for _ in range(self.random.randint(1, 3))]
        return rows + [("frame", (("clock", (0, 1)),))]

    def curve(self):
        return STRAIGHT if self.chance(0.5) else Draw.curve(self)

    def frame(self):
        self.moment += Fraction(self.random.randint(0, 6), self.one((1, 2, 4)))
        return ("frame", (("clock", told(self.moment) if self.chance(0.97) else None),))

    def style(self):
        names = PROPERTIES[:self.random.randint(1, 2)]
        return ("style", tuple(("box", name, self.one(((0, 1), (10, 1), (4, 1)))) for name in names))

    def transit(self):
        delay = (0, 1) if self.chance(0.6) else self.number(-3, 3)
        clock = self.name(self.clocks)
        return ("transit", "box", self.one(PROPERTIES), clock, self.amount(12), delay, self.curve())


def tell(stage, row):
    """What comes of a row: None, or the kind of the refusal."""
    try:
        stage.do(row)
    except (Refused, No) as refusal:
        return refusal.args[0]


def asked(thing, question, *told_of):
    """The answer, or the kind of the refusal."""
    try:
        return getattr(thing, question)(*told_of)
    except (Refused, No) as refusal:
        return ("refused", refusal.args[0])


def answers(stage, model):
    """The pairs of answers to all questions."""
    for name in model.actors:
        yield ("full", name), stage.full(name), model.full(name)
        yield ("time", name), stage.time(name), model.time(name)
        yield ("state", name), stage.state(name), model.state(name)
        yield ("next_change", name), asked(stage, "next_change", name), asked(model, "next_change", name)
    for name in model.effects:
        if isinstance(name, str):
            yield ("told", name), stage.told(name), model.told(name)
    for name in model.lines:
        yield ("now", name), stage.now(name), model.now(name)
    for target in TARGETS:
        for name in PROPERTIES:
            for question in ("value", "style", "stack", "transition"):
                found = getattr(stage, question)(target, name), getattr(model, question)(target, name)
                yield ((question, target, name),) + found
    yield ("players",), stage.players(), list(model.actors)
    yield ("notes",), stage.notes(), model.noted
    yield ("log",), stage.log(), model.logged
    yield ("waiting",), stage.waiting(), model.kept
    yield ("frames",), stage.frames(), model.frame_number


def history(seed, length, kind=Draw):
    """The stage behind a history."""
    draw, stage = kind(seed), Stage()
    for row in draw.beginning() + [None] * length:
        row = draw.row() if row is None else row
        tell(stage, row)
        draw.see_ways(stage)
    return stage


def difference(seed, length, kind=Draw):
    """Lead both stages by one history; the first difference, None if there is none."""
    draw, stage, model = kind(seed), Stage(), Model()
    for row in draw.beginning() + [None] * length:
        row = draw.row() if row is None else row
        try:
            outcome = tell(stage, row)
        except NoRow:
            return ("no row", row)
        wanted = tell(model, row)
        if outcome != wanted:
            return (row, outcome, wanted)
        for question, answer, right in answers(stage, model):
            if answer != right:
                return (row, question, answer, right)
        draw.see_ways(stage)
    return None
