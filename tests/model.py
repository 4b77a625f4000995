"""A second stage, written down from the document sentence by sentence, slow and plain.

It reckons by Python's own fractions, works out everything anew at each question, and looks at no forms: it is told
right rows alone. Endless is Python's infinity.
"""

from fractions import Fraction
from math import floor

from reckoning import cubic_value, line_value, steps_value

INF = float("inf")
STRAIGHT = ("linear", (((0, 1), (0, 1)), ((1, 1), (1, 1))))


class No(Exception):
    """A refusal; its only argument is the kind."""


def read(thing):
    if thing is None:
        return None
    if thing == "endless":
        return INF
    return Fraction(*thing)


def told(thing):
    if thing is None:
        return None
    if thing == INF:
        return "endless"
    thing = Fraction(thing)
    return (thing.numerator, thing.denominator)


def product(a, b):
    return Fraction(0) if a == 0 or b == 0 else a * b


def curve_at(curve, x, before=False):
    if curve[0] == "linear":
        return line_value(curve, x)
    if curve[0] == "cubic":
        return cubic_value(curve, x)
    return steps_value(curve, x, before)


class Times:
    """What [4] and [5] say of a timing with a told length."""

    def __init__(self, timing, length):
        delay, behind, self.fill, first, times, _, self.way, self.curve = timing
        self.delay, self.behind, self.first, self.times = read(delay), read(behind), read(first), read(times)
        self.length = length
        self.duration = product(length, self.times)
        self.end = max(self.delay + self.duration + self.behind, Fraction(0))
        self.edge1 = max(min(self.delay, self.end), Fraction(0))
        self.edge2 = max(min(self.delay + self.duration, self.end), Fraction(0))

    def phase(self, time, sign):
        if time is None:
            return "idle"
        if time < self.edge1 or (time == self.edge1 and sign == -1):
            return "before"
        if time > self.edge2 or (time == self.edge2 and sign == 1):
            return "after"
        return "active"

    def active(self, time, sign, fill):
        phase = self.phase(time, sign)
        if phase == "active":
            return time - self.delay
        if phase == "before" and fill in ("backwards", "both"):
            return max(time - self.delay, Fraction(0))
        if phase == "after" and fill in ("forwards", "both"):
            return max(min(time - self.delay, self.duration), Fraction(0))
        return None

    def all(self, time, sign):
        """The phase, active time, overall, simple, iteration, directed, progress, direction."""
        phase = self.phase(time, sign)
        active = self.active(time, sign, self.fill)
        if active is None:
            return phase, None, None, None, None, None, None, None
        if self.length == 0:
            overall = self.first if phase == "before" else self.first + self.times
        elif self.length == INF:
            overall = self.first
        else:
            overall = self.first + active / self.length
        simple = self.first % 1 if overall == INF else overall % 1
        if simple == 0 and phase in ("active", "after") and active == self.duration and self.times != 0:
            simple = Fraction(1)
        if phase == "after" and self.times == INF or overall == INF:
            iteration = "endless"
        else:
            iteration = floor(overall) - (1 if simple == 1 else 0)
        direction = 1
        if self.way == "reverse":
            direction = -1
        if self.way.startswith("alternate") and iteration != "endless":
            turned = iteration % 2 == 1
            if self.way == "alternate reverse":
                turned = not turned
            direction = -1 if turned else 1
        directed = simple if direction == 1 else 1 - simple
        flag = phase == "before" and direction == 1 or phase == "after" and direction == -1
        return phase, active, overall, simple, iteration, directed, curve_at(self.curve, directed, flag), direction


def facts_told(facts):
    phase, active, overall, simple, iteration, directed, progress, _ = facts
    return (phase, told(active), told(overall), told(simple), iteration, told(directed), told(progress))


def settled_offsets(keyframes):
    offsets = [read(frame[0]) for frame in keyframes]
    if offsets[-1] is None:
        offsets[-1] = Fraction(1)
    if offsets[0] is None:
        offsets[0] = Fraction(0)
    for at in range(len(offsets)):
        if offsets[at] is None:
            behind = min(k for k in range(at, len(offsets)) if offsets[k] is not None)
            offsets[at] = offsets[at - 1] + (offsets[behind] - offsets[at - 1]) / (behind - at + 1)
    return offsets


def effect_value(effect, name, progress, iteration, beneath):
    """[8]; effect is its row."""
    keyframes, effect_mode, going = effect[4:7]
    frames = []
    for offset, frame in zip(settled_offsets(keyframes), keyframes):
        for prop, value in frame[3]:
            if prop == name:
                frames.append((offset, frame[1], frame[2], read(value)))
    if all(frame[0] != 0 for frame in frames):
        frames.insert(0, (Fraction(0), "add", STRAIGHT, Fraction(0)))
    growth = frames[-1][3]
    if all(frame[0] != 1 for frame in frames):
        frames.append((Fraction(1), "add", STRAIGHT, Fraction(0)))
        growth = Fraction(0)

    def own(frame):
        value = frame[3]
        if going == "on" and iteration != "endless":
            value += iteration * growth
        return value + beneath if (frame[1] or effect_mode) == "add" else value

    if progress < 0 and sum(frame[0] == 0 for frame in frames) > 1:
        return own(frames[0])
    if progress >= 1 and sum(frame[0] == 1 for frame in frames) > 1:
        return own(frames[-1])
    fitting = [at for at, frame in enumerate(frames) if frame[0] <= progress and frame[0] < 1]
    if not fitting:
        fitting = [at for at, frame in enumerate(frames) if frame[0] == 0]
    one, two = frames[fitting[-1]], frames[fitting[-1] + 1]
    w = curve_at(one[2], (progress - one[0]) / (two[0] - one[0]))
    return own(one) + (own(two) - own(one)) * w


class Actor:
    """A player."""

    def __init__(self, name, sort, effect, line):
        self.name, self.sort, self.effect, self.line = name, sort, effect, line
        self.S = self.H = self.q = self.task = self.before = None
        self.r = Fraction(1)
        self.ready, self.finished, self.mark = "settled", "open", "active"
        self.last = ("idle", None, None)


class Model:
    def __init__(self):
        self.lines = {}
        self.effects = {}
        self.actors = {}
        self.styles = {}
        self.ways = {}
        self.runs = {}
        self.completed = {}
        self.count = 0
        self.queue = []
        self.kept = []
        self.noted = []
        self.logged = []
        self.frame_number = 0

    # What things are.

    def taken(self, name):
        return name in self.lines or name in self.effects or name in self.actors

    def actor(self, name):
        if name not in self.actors:
            raise No("name")
        return self.actors[name]

    def parent(self, name):
        for other, row in self.effects.items():
            if row[0] in ("group", "sequence") and name in row[3]:
                return other
        return None

    def leader(self, name):
        """The player of an effect, or None."""
        for actor in self.actors.values():
            if name is not None and actor.effect == name:
                return actor
        return None

    def timing(self, name):
        row = self.effects[name]
        return row[3] if row[0] == "effect" else row[2]

    def times(self, name):
        row = self.effects[name]
        timing = self.timing(name)
        length = read(timing[5])
        if length is None:
            ends = [] if row[0] == "effect" else [self.times(child).end for child in row[3]]
            length = sum(ends, Fraction(0)) if row[0] == "sequence" else max(ends + [Fraction(0)])
        return Times(timing, length)

    def moment(self, name):
        """Local time and sign of an effect."""
        parent = self.parent(name)
        if parent is None:
            actor = self.leader(name)
            if actor is None:
                return None, 1
            return self.C(actor), -1 if actor.r < 0 else 1
        time, sign = self.moment(parent)
        row = self.effects[parent]
        times = self.times(parent)
        facts = times.all(time, sign)
        if facts[6] is None:
            return None, sign
        if times.length == INF:
            place = facts[1]
        else:
            place = facts[6] * times.length
            sign = sign * facts[7]
        if row[0] == "sequence":
            ahead = sum([self.times(child).end for child in row[3][:row[3].index(name)]], Fraction(0))
            place = None if ahead == INF else place - ahead
        return place, sign

    def facts(self, name):
        return self.times(name).all(*self.moment(name))

    def leaves(self, name):
        if name is None:
            return []
        row = self.effects[name]
        if row[0] == "effect":
            return [name]
        return [leaf for child in row[3] for leaf in self.leaves(child)]

    def properties(self, leaf):
        return {name: True for frame in self.effects[leaf][4] for name, _ in frame[3]}

    # What players are at.

    def T(self, actor):
        return None if actor.line is None else self.lines[actor.line]["time"]

    def E(self, actor):
        return Fraction(0) if actor.effect is None else self.times(actor.effect).end

    def e(self, actor):
        return actor.r if actor.q is None else actor.q

    def free(self, actor):
        if self.T(actor) is None or actor.S is None:
            return None
        return (self.T(actor) - actor.S) * actor.r

    def C(self, actor):
        return self.free(actor) if actor.H is None else actor.H

    def status(self, actor):
        C, e = self.C(actor), self.e(actor)
        if C is None and actor.S is None and actor.task is None:
            return "idle"
        if actor.task == "pause" or (actor.S is None and actor.task != "play"):
            return "paused"
        if C is not None and (e > 0 and C >= self.E(actor) or e < 0 and C <= 0):
            return "finished"
        return "running"

    def apply(self, actor):
        if actor.q is not None:
            actor.r, actor.q = actor.q, None

    def tell_ready(self, actor):
        actor.ready = "settled"
        self.noted.append(("ready", actor.name))

    def tell_finished(self, actor):
        actor.finished = "settled"
        self.noted.append(("finished", actor.name))
        goal = self.E(actor) if actor.r > 0 else Fraction(0)
        self.kept.append(("finish", actor.name, told(self.C(actor)), told(self.due(actor, goal))))

    def due(self, actor, time):
        if actor.S is None or actor.r == 0 or time == INF:
            return None
        return actor.S + time / actor.r

    def LOOK(self, actor, sought, at_once):
        u = self.C(actor) if sought else self.free(actor)
        if u is not None and actor.S is not None and actor.task is None:
            E = self.E(actor)
            if actor.r > 0 and u >= E:
                if sought:
                    actor.H = u
                else:
                    actor.H = E if actor.before is None else max(E, actor.before)
            elif actor.r < 0 and u <= 0:
                if sought:
                    actor.H = u
                else:
                    actor.H = Fraction(0) if actor.before is None else min(Fraction(0), actor.before)
            elif actor.r != 0:
                if sought and actor.H is not None and self.T(actor) is not None:
                    actor.S = self.T(actor) - actor.H / actor.r
                actor.H = None
        actor.before = self.C(actor)
        if self.status(actor) == "finished":
            if actor.finished == "open":
                if at_once:
                    self.tell_finished(actor)
                    self.queue = [name for name in self.queue if name != actor.name]
                elif actor.name not in self.queue:
                    self.queue.append(actor.name)
        elif actor.finished == "settled":
            actor.finished = "open"

    def SET(self, actor, t):
        T = self.T(actor)
        if actor.H is not None or actor.S is None or T is None or actor.r == 0:
            actor.H = t
        else:
            actor.S = T - t / actor.r
        if T is None:
            actor.S = None
        actor.before = None

    def SEEK(self, actor, t):
        self.SET(actor, t)
        if actor.task == "pause":
            actor.H = t
            self.apply(actor)
            actor.S = None
            actor.task = None
            self.tell_ready(actor)
        self.LOOK(actor, True, False)

    def PLAY(self, actor, rewind):
        new = None
        C, E, e = self.C(actor), self.E(actor), self.e(actor)
        if rewind:
            if e > 0 and (C is None or C < 0 or C >= E):
                new = Fraction(0)
            elif e < 0 and (C is None or C <= 0 or C > E):
                if E == INF:
                    raise No("state")
                new = E
            elif e == 0 and C is None:
                new = Fraction(0)
        if new is not None:
            actor.H = new
        if actor.H is not None:
            actor.S = None
        task, actor.task = actor.task, None
        if actor.H is None and task != "pause" and actor.q is None:
            return
        if task is None:
            actor.ready = "open"
        actor.task = "play"
        self.LOOK(actor, False, False)

    # Rows.

    def do(self, row):
        getattr(self, "do_" + row[0])(*row[1:])

    def do_effect(self, name, *rest):
        if self.taken(name):
            raise No("name")
        self.effects[name] = ("effect", name) + rest

    def do_group(self, name, timing, children, word="group"):
        if self.taken(name) or any(child not in self.effects for child in children):
            raise No("name")
        for child in children:
            self.check_loose(child)
        self.effects[name] = (word, name, timing, children)

    def do_sequence(self, name, timing, children):
        self.do_group(name, timing, children, "sequence")

    def check_loose(self, name):
        if name is not None and (self.parent(name) is not None or self.leader(name) is not None):
            raise No("state")

    def do_retime(self, name, timing):
        if name not in self.effects:
            raise No("name")
        row = self.effects[name]
        at = 3 if row[0] == "effect" else 2
        self.effects[name] = row[:at] + (timing,) + row[at + 1:]
        while self.parent(name) is not None:
            name = self.parent(name)
        if self.leader(name) is not None:
            self.LOOK(self.leader(name), False, False)

    def do_clock(self, name, sort="clock"):
        if self.taken(name):
            raise No("name")
        self.lines[name] = {"sort": sort, "time": None, "last": None}

    def do_scrolled(self, name):
        self.do_clock(name, "scrolled")

    def do_player(self, name, effect, line, sort):
        if self.taken(name) or effect is not None and effect not in self.effects:
            raise No("name")
        if line is not None and line not in self.lines:
            raise No("name")
        self.check_loose(effect)
        self.actors[name] = Actor(name, sort, effect, line)

    def do_play(self, name):
        self.PLAY(self.actor(name), True)

    def do_pause(self, name):
        actor = self.actor(name)
        if self.status(actor) == "paused":
            return
        if self.C(actor) is None:
            if actor.r >= 0:
                actor.H = Fraction(0)
            elif self.E(actor) == INF:
                raise No("state")
            else:
                actor.H = self.E(actor)
        if actor.task != "play":
            actor.ready = "open"
        actor.task = "pause"
        self.LOOK(actor, False, False)

    def do_reverse(self, name):
        actor = self.actor(name)
        if self.T(actor) is None:
            raise No("state")
        was = actor.q
        actor.q = -self.e(actor)
        try:
            self.PLAY(actor, True)
        except No:
            actor.q = was
            raise

    def do_finish(self, name):
        actor = self.actor(name)
        e = self.e(actor)
        if e == 0 or e > 0 and self.E(actor) == INF:
            raise No("state")
        self.apply(actor)
        goal = self.E(actor) if actor.r > 0 else Fraction(0)
        self.SET(actor, goal)
        T = self.T(actor)
        if actor.S is None and T is not None:
            actor.S = T - goal / actor.r
        if actor.task is not None and actor.S is not None:
            if actor.task == "pause":
                actor.H = None
            actor.task = None
            self.tell_ready(actor)
        self.LOOK(actor, True, True)

    def do_cancel(self, name):
        actor = self.actor(name)
        if self.status(actor) != "idle":
            if actor.task is not None:
                actor.task = None
                self.apply(actor)
                self.noted.append(("ready refused", name))
                actor.ready = "settled"
            if actor.finished == "open":
                self.noted.append(("finished refused", name))
            actor.finished = "open"
            self.queue = [other for other in self.queue if other != name]
            self.kept.append(("cancel", name, None, told(self.T(actor))))
        actor.H = actor.S = None

    def do_seek(self, name, t):
        actor = self.actor(name)
        if t is None:
            if self.C(actor) is not None:
                raise No("time")
        else:
            self.SEEK(actor, read(t))

    def do_start(self, name, s):
        actor = self.actor(name)
        if self.T(actor) is None and s is not None:
            actor.H = None
        c = self.C(actor)
        self.apply(actor)
        actor.S = read(s)
        if s is None:
            actor.H = c
        elif actor.r != 0:
            actor.H = None
        if actor.task is not None:
            actor.task = None
            self.tell_ready(actor)
        self.LOOK(actor, True, False)

    def do_rate(self, name, r):
        actor = self.actor(name)
        actor.q = None
        c = self.C(actor)
        actor.r = read(r)
        if c is not None:
            self.SEEK(actor, c)

    def do_smooth(self, name, n):
        actor = self.actor(name)
        s = self.status(actor)
        actor.q = read(n)
        if actor.task is not None:
            return
        if s in ("idle", "paused"):
            self.apply(actor)
        elif s == "finished":
            u = self.free(actor)
            T = self.T(actor)
            if T is not None:
                actor.S = T if actor.q == 0 else T - (u or 0) / actor.q
            self.apply(actor)
            self.LOOK(actor, False, False)
        else:
            self.PLAY(actor, False)

    def do_keep(self, name):
        self.actor(name).mark = "kept"

    def do_follow(self, name, line):
        actor = self.actor(name)
        if line is not None and line not in self.lines:
            raise No("name")
        if actor.sort == "way":
            raise No("state")
        if actor.line == line:
            return
        actor.line = line
        if actor.S is not None:
            actor.H = None
        self.LOOK(actor, False, False)

    def do_use(self, name, effect):
        actor = self.actor(name)
        if effect is not None and effect not in self.effects:
            raise No("name")
        if actor.sort == "way":
            raise No("state")
        if actor.effect == effect:
            return
        self.check_loose(effect)
        actor.effect = effect
        self.LOOK(actor, False, False)

    def do_commit(self, name):
        actor = self.actor(name)
        for leaf in self.leaves(actor.effect):
            if self.facts(leaf)[6] is None:
                continue
            target = self.effects[leaf][2]
            for prop in self.properties(leaf):
                value = self.styles.get((target, prop), Fraction(0))
                for other in self.stack_of_players():
                    if other.mark == "removed" and other.name != name:
                        continue
                    done = False
                    for below in self.leaves(other.effect):
                        value = self.applied(below, target, prop, value)
                        if below == leaf:
                            done = True
                            break
                    if done:
                        break
                self.styles[(target, prop)] = value

    def applied(self, leaf, target, prop, value):
        row = self.effects[leaf]
        facts = self.facts(leaf)
        if row[2] == target and prop in self.properties(leaf) and facts[6] is not None:
            return effect_value(row, prop, facts[6], facts[4], value)
        return value

    def stack_of_players(self):
        order = ("way", "styled", "plain")
        return sorted(self.actors.values(), key=lambda actor: order.index(actor.sort))

    def do_transit(self, target, prop, clock, length, delay, curve):
        if clock not in self.lines or self.lines[clock]["sort"] != "clock":
            raise No("name")
        self.ways[(target, prop)] = (clock, read(length), read(delay), curve)

    def do_still(self, target, prop):
        if (target, prop) in self.ways:
            del self.ways[(target, prop)]

    def do_style(self, changes):
        olds = [self.styles.get((target, prop), Fraction(0)) for target, prop, _ in changes]
        for target, prop, value in changes:
            self.styles[(target, prop)] = read(value)
        for (target, prop, value), old in zip(changes, olds):
            self.change((target, prop), old, read(value))

    def change(self, key, old, new):
        run = self.runs.get(key)
        if run is not None and self.status(self.actors[run["player"]]) == "idle":
            del self.runs[key]
            run = None
        if run is not None:
            old = self.present(run)
        way = self.ways.get(key)
        counts = way is not None and self.lines[way[0]]["time"] is not None and way[1] + way[2] > 0
        if way is None:
            if run is not None:
                self.do_cancel(run["player"])
                del self.runs[key]
            self.completed.pop(key, None)
        elif run is None:
            if key in self.completed and self.completed[key] == new:
                return
            self.completed.pop(key, None)
            if old != new and counts:
                self.begin(key, old, new, old, Fraction(1))
        elif run["last"] != new:
            facts = self.facts(run["player"])
            p = facts[6]
            if p is None:
                p = 1 if facts[0] == "after" else 0
            self.do_cancel(run["player"])
            del self.runs[key]
            if old == new or not counts:
                return
            if new == run["turning"]:
                f = run["factor"]
                self.begin(key, old, new, run["last"], min(max(abs(p * f + 1 - f), Fraction(0)), Fraction(1)))
            else:
                self.begin(key, old, new, old, Fraction(1))

    def present(self, run):
        facts = self.facts(run["player"])
        if facts[6] is None:
            return run["last"] if facts[0] == "after" else run["first"]
        return run["first"] + (run["last"] - run["first"]) * facts[6]

    def begin(self, key, first, last, turning, factor):
        clock, length, delay, curve = self.ways[key]
        name = ("way",) + key + (self.count,)
        self.count += 1
        delay = delay * factor if delay < 0 else delay
        timing = (told(delay), (0, 1), "backwards", (0, 1), (1, 1), told(length * factor), "normal", curve)
        frames = tuple(((at, 1), None, STRAIGHT, ((key[1], told(value)),)) for at, value in ((0, first), (1, last)))
        self.effects[name] = ("effect", name, key[0], timing, frames, "replace", "anew")
        actor = Actor(name, "way", name, clock)
        actor.S = self.T(actor)
        self.actors[name] = actor
        self.runs[key] = {"player": name, "first": first, "last": last, "turning": turning, "factor": factor}
        self.LOOK(actor, False, False)

    # Frames.

    def do_settle(self):
        while self.queue:
            actor = self.actors[self.queue.pop(0)]
            if self.status(actor) == "finished":
                self.tell_finished(actor)

    def do_frame(self, pairs):
        if any(line not in self.lines for line, _ in pairs):
            raise No("name")
        for line, time in pairs:
            held = self.lines[line]
            if held["sort"] == "clock" and time is not None and held["last"] is not None and read(time) < held["last"]:
                raise No("time")
        self.frame_number += 1
        for line, time in pairs:
            self.lines[line]["time"] = read(time)
            if time is not None:
                self.lines[line]["last"] = read(time)
        for actor in self.actors.values():
            if actor.task is not None and self.T(actor) is not None:
                self.become_ready(actor)
            else:
                self.LOOK(actor, False, False)
        self.do_settle()
        self.remove()
        for actor in self.stack_of_players():
            self.tell_phases(actor)
        self.tell_log()
        for key, run in list(self.runs.items()):
            actor = self.actors[run["player"]]
            if self.status(actor) == "finished":
                del self.runs[key]
                if self.C(actor) >= self.E(actor):
                    self.completed[key] = run["last"]
            elif self.status(actor) == "idle":
                del self.runs[key]

    def become_ready(self, actor):
        T = self.T(actor)
        if actor.task == "play":
            if actor.H is not None:
                self.apply(actor)
                actor.S = T if actor.r == 0 else T - actor.H / actor.r
                if actor.r != 0:
                    actor.H = None
            elif actor.q is not None:
                c = (T - actor.S) * actor.r
                self.apply(actor)
                if actor.r == 0:
                    actor.H = c
                actor.S = T if actor.r == 0 else T - c / actor.r
        else:
            if actor.S is not None and actor.H is None:
                actor.H = (T - actor.S) * actor.r
            self.apply(actor)
            actor.S = None
        actor.task = None
        self.tell_ready(actor)
        self.LOOK(actor, False, False)

    def replaceable(self, actor):
        if actor.sort != "plain" or self.status(actor) != "finished" or actor.mark == "removed":
            return False
        if actor.line is None or self.lines[actor.line]["sort"] != "clock" or actor.effect is None:
            return False
        leaves = self.leaves(actor.effect)
        return bool(leaves) and all(self.facts(leaf)[6] is not None for leaf in leaves)

    def pairs(self, actor):
        return {(self.effects[leaf][2], prop) for leaf in self.leaves(actor.effect) for prop in self.properties(leaf)}

    def remove(self):
        stack = self.stack_of_players()
        able = [self.replaceable(actor) for actor in stack]
        gone = []
        for at, actor in enumerate(stack):
            if able[at] and actor.mark == "active":
                above = [self.pairs(other) for k, other in enumerate(stack) if k > at and able[k]]
                if all(any(pair in pairs for pairs in above) for pair in self.pairs(actor)):
                    gone.append(actor)
        for actor in gone:
            actor.mark = "removed"
            self.kept.append(("remove", actor.name, told(self.C(actor)), told(self.T(actor))))

    def tell_phases(self, actor):
        if actor.effect is None:
            now, times, both = ("idle", None), None, None
        else:
            times = self.times(actor.effect)
            moment = self.moment(actor.effect)
            facts = times.all(*moment)
            now, both = (facts[0], facts[4]), times.active(*moment, "both")
        if actor.sort != "plain":
            for word, time in self.phase_events(actor, now, times):
                if word == "cancel":
                    due = self.T(actor)
                else:
                    due = self.due(actor, times.delay + time)
                self.kept.append(("effect " + word, actor.name, told(time), told(due)))
        actor.last = now + (both,)

    def phase_events(self, actor, now, times):
        was, is_ = actor.last[0], now[0]
        if is_ == "idle":
            return [("cancel", actor.last[2])] if was in ("before", "active") else []
        begin = max(Fraction(0), min(-times.delay, times.duration))
        over = max(Fraction(0), min(times.end - times.delay, times.duration))
        table = {
            ("idle", "active"): [("start", begin)],
            ("before", "active"): [("start", begin)],
            ("idle", "after"): [("start", begin), ("end", over)],
            ("before", "after"): [("start", begin), ("end", over)],
            ("active", "before"): [("end", begin)],
            ("active", "after"): [("end", over)],
            ("after", "active"): [("start", over)],
            ("after", "before"): [("start", over), ("end", begin)],
        }
        found = table.get((was, is_), [])
        if was == is_ == "active" and actor.last[1] != now[1] and times.length != INF:
            border = now[1] + 1 if now[1] < actor.last[1] else now[1]
            found = [("iteration", (border - times.first) * times.length)]
        if actor.sort == "way" and was == "idle":
            found = [("run", begin)] + found
        return found

    def tell_log(self):
        names = [actor.name for actor in self.stack_of_players()]
        rows = sorted(self.kept, key=lambda event: (event[3] is not None, read(event[3]) or 0, names.index(event[1])))
        self.logged += [(self.frame_number, event) for event in rows]
        self.kept = []

    # Questions.

    def time(self, name):
        return told(self.C(self.actors[name]))

    def state(self, name):
        return self.status(self.actors[name])

    def told(self, name):
        return facts_told(self.facts(name))

    def now(self, line):
        return told(self.lines[line]["time"])

    def style(self, target, name):
        return told(self.styles.get((target, name), 0))

    def stack_leaves(self, target, name):
        leaves = []
        for actor in self.stack_of_players():
            if actor.mark != "removed":
                leaves += [
                    leaf for leaf in self.leaves(actor.effect)
                    if self.effects[leaf][2] == target and name in self.properties(leaf)
                    and self.facts(leaf)[6] is not None
                ]
        return leaves

    def stack(self, target, name):
        return self.stack_leaves(target, name)

    def value(self, target, name):
        value = self.styles.get((target, name), Fraction(0))
        for leaf in self.stack_leaves(target, name):
            value = self.applied(leaf, target, name, value)
        return told(value)

    def transition(self, target, name):
        run = self.runs.get((target, name))
        return (None if run is None else run["player"], told(self.completed.get((target, name))))

    def full(self, name):
        actor = self.actors[name]
        return (
            told(actor.S), told(actor.H), told(actor.r), told(actor.q), actor.task, told(actor.before), actor.ready,
            actor.finished, 1 if name in self.queue else 0, actor.mark, actor.line,
            None if actor.sort == "way" else actor.effect, actor.last[0], actor.last[1], told(actor.last[2]),
        )

    def next_change(self, name):
        """Walk along all times at which anything could change, and look at them and between them."""
        actor = self.actors[name]
        if actor.task is not None or actor.line is None or self.lines[actor.line]["sort"] != "clock":
            raise No("state")
        if self.T(actor) is None:
            raise No("state")
        if self.status(actor) != "running" or actor.r == 0:
            return None
        C, way = self.C(actor), 1 if actor.r > 0 else -1
        times = None if actor.effect is None else self.times(actor.effect)
        places = {Fraction(0)}
        if times is not None:
            places |= {times.delay, times.edge1, times.edge2, times.end, times.delay + times.duration} - {INF}
            if times.length not in (0, INF):
                far = max(abs(C - place) for place in places)
                for k in range(-2, floor((far + abs(C) + abs(times.delay)) / times.length + times.first) + 4):
                    places.add(times.delay + (k - times.first) * times.length)

        def key(place):
            finished = way > 0 and place >= self.E(actor) or way < 0 and place <= 0
            if times is None:
                return finished
            facts = times.all(place, way)
            return finished, facts[0], facts[4]

        here, now = C, key(C)
        for place in sorted([place for place in places if (place - C) * way > 0], reverse=way < 0) + [None]:
            between = here + way if place is None else (here + place) / 2
            if key(between) != now:
                return (told(actor.S + here / actor.r), "behind")
            if place is not None and key(place) != now:
                return (told(actor.S + place / actor.r), "at")
            here = place
        return None
