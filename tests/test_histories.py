"""Longer histories: beside the model, the main facts of [1], and the time that they take."""

import time
import unittest
from fractions import Fraction

from framecues.stages import Stage, replayed
from framecues.timings import told_at
from histories import PROPERTIES, TARGETS, Calm, Draw, Ways, asked, difference, history, tell
from making import ONE, effect, frame, lead, n, player, stage, timing
from model import Model

KINDS = (Draw, Calm, Ways)


def seen(made):
    """What a stage tells now, but for its notes, its log, its rows and the number of frames."""
    found = [made.players(), made.waiting()]
    for name in made.players():
        found.append([made.full(name), made.time(name), made.state(name), asked(made, "next_change", name)])
    for target in TARGETS:
        for name in PROPERTIES:
            for question in ("value", "style", "stack", "transition"):
                found.append(getattr(made, question)(target, name))
    return found


def number(pair):
    return Fraction(*pair)


class ModelTest(unittest.TestCase):
    def check(self, kind, seeds, length=40):
        for seed in seeds:
            self.assertIsNone(difference(seed, length, kind), (kind, seed))

    def test_all_sorts_of_rows(self):
        self.check(Draw, range(120))

    def test_players_on_one_clock(self):
        self.check(Calm, range(120))

    def test_transitions(self):
        self.check(Ways, range(120))

    def test_long_ones(self):
        for kind in KINDS:
            self.check(kind, range(1000, 1005), 150)


class FactsTest(unittest.TestCase):
    """The main facts of [1]."""

    def test_equal_stages_do_the_same_for_all_rows_to_come(self):
        for kind in KINDS:
            for seed in range(25):
                made = history(seed, 40, kind)
                again, twin = replayed(made.rows()), made.copy()
                lead(twin, ("frame", ()), ("frame", ()))
                lead(made, ("frame", ()))
                lead(again, ("frame", ()))
                if not made == twin:
                    continue
                draw = kind(seed + 500)
                draw.effects, draw.lines, draw.players = ["eab", "eac"], ["cab", "clock"], made.players() + ["pae"]
                draw.clocks, draw.moment, draw.count = list(draw.lines), Fraction(500), 300
                for row in [draw.row() for _ in range(25)]:
                    sizes = [len(one.log()) for one in (made, twin, again)]
                    outcomes = [tell(one, row) for one in (made, twin, again)]
                    self.assertEqual(outcomes, [outcomes[0]] * 3)
                    self.assertTrue(made == twin and twin == again)
                    self.assertEqual(seen(made), seen(twin))
                    self.assertEqual(seen(made), seen(again))
                    events = [[event for _, event in one.log()[size:]] for one, size in zip((made, twin, again), sizes)]
                    self.assertEqual(events, [events[0]] * 3)

    def test_stages_that_tell_other_things_are_not_equal(self):
        for kind in KINDS:
            made = [history(seed, 12, kind) for seed in range(12)]
            for at, one in enumerate(made):
                for k, other in enumerate(made):
                    self.assertIs(one == other, at == k)

    def test_the_sign_matters_at_the_edges_alone(self):
        for parts in (timing(4, delay=3, times=2, fill="both"), timing(4, behind=2), timing(6, delay=2, behind=-1)):
            first, second = [number(edge) for edge in (parts[0], n(0))]
            for place in [Fraction(k, 4) for k in range(-8, 60)]:
                same = told_at(parts, n(place), 1) == told_at(parts, n(place), -1)
                delay, length = number(parts[0]), number(parts[5]) * number(parts[4])
                end = delay + length + min(number(parts[1]), 0)
                self.assertIs(same, place not in (first + second, end), (parts, place))

    def test_a_player_is_finished_exactly_at_or_past_the_end_of_its_way(self):
        for kind in KINDS:
            for seed in range(20):
                draw, made, model = kind(seed), Stage(), Model()
                for row in draw.beginning() + [None] * 40:
                    row = draw.row() if row is None else row
                    tell(made, row)
                    tell(model, row)
                    for name in made.players():
                        rate = [part for part in made.rates(name) if part is not None][-1]
                        place, end = made.time(name), model.E(model.actors[name])
                        past = place is not None and (
                            rate[0] > 0 and number(place) >= end or rate[0] < 0 and place[0] <= 0)
                        ruled_out = made.pending(name) == "pause" or (
                            made.start(name) is None and made.pending(name) is None)
                        self.assertIs(made.state(name) == "finished", past and not ruled_out)

    def test_a_smooth_change_does_not_move_a_running_player(self):
        for rate in (Fraction(1, 2), 1, 3):
            for then in (-2, -1, 0, Fraction(1, 3), 2):
                for wait in (0, 1, 2, 9):
                    made = stage(effect(), ("clock", "c"), player(), ("rate", "p", n(rate)), ("play", "p"), frame(0))
                    lead(made, frame(2), ("smooth", "p", n(then)))
                    self.assertEqual(number(made.time("p")), 2 * rate)
                    lead(made, frame(2 + wait))
                    free = (2 + wait) * Fraction(rate)
                    if then > 0 and free >= 10:
                        self.assertEqual([made.state("p"), made.time("p")], ["finished", n(10)])
                    else:
                        self.assertEqual(made.time("p"), n(free))
                    self.assertEqual(made.rates("p"), (n(then), None))

    def test_frames_may_be_left_out(self):
        tried = 0
        for kind in (Calm, Ways):
            for seed in range(60):
                made = history(seed, 30, kind)
                clocks = [row[1] for row in made.rows() if row[0] == "clock"]
                if any(row[0] == "scrolled" for row in made.rows()):
                    continue
                here = max([Fraction(0)] + [number(made.now(name)) for name in clocks if made.now(name) is not None])
                lead(made, ("frame", tuple((name, n(here + 100)) for name in clocks)))
                if any(made.pending(name) for name in made.players()):
                    continue
                many, few = made.copy(), made.copy()
                for k in (1, 3, 4, 7, 12):
                    lead(many, ("frame", tuple((name, n(here + 100 + Fraction(k, 2))) for name in clocks)))
                lead(few, ("frame", tuple((name, n(here + 106)) for name in clocks)))
                self.same_but_for_frames(many, few, len(made.log()))
                tried += 1
        self.assertGreater(tried, 50)

    def same_but_for_frames(self, many, few, size):
        for name in many.players():
            for question in ("start", "hold", "state", "time"):
                self.assertEqual(getattr(many, question)(name), getattr(few, question)(name))
        for target in TARGETS:
            for name in PROPERTIES:
                for question in ("value", "style", "transition"):
                    self.assertEqual(getattr(many, question)(target, name), getattr(few, question)(target, name))
        events = [sorted(repr(event) for _, event in made.log()[size:] if event[0] not in ("effect iteration", "remove"))
                  for made in (many, few)]
        self.assertEqual(events[0], events[1])

    def test_running_players_have_frames_left_out(self):
        rows = [effect("e", timing(4, delay=1, fill="both")), effect("f", timing(3, times=3)), ("clock", "c")]
        rows += [player("p", "e", kind="styled"), player("q", "f", kind="styled"), ("play", "p"), ("play", "q"), frame(0)]
        many, few = stage(*rows), stage(*rows)
        for k in range(1, 25):
            lead(many, frame(Fraction(k, 2)))
        lead(few, frame(12))
        self.same_but_for_frames(many, few, 0)
        self.assertGreater(len(many.log()), len(few.log()))


class SpeedTest(unittest.TestCase):
    def test_sixty_rows_with_all_questions_behind_each(self):
        begun = time.perf_counter()
        for seed in range(5):
            self.ask_all(Calm(seed))
        self.assertLess((time.perf_counter() - begun) / 5, 0.5)

    def ask_all(self, draw):
        made = Stage()
        rows = [("clock", "clock"), ("frame", (("clock", n(0)),))]
        for name in ("a", "b", "d"):
            rows += [draw.make_effect()]
            rows += [("player", "p" + name, rows[-1][1], "clock", "styled"), ("play", "p" + name)]
        draw.lines, draw.clocks, draw.players = ["clock"], ["clock"], ["pa", "pb", "pd"]
        while len(rows) < 60:
            rows.append(draw.lead() if len(rows) % 2 else draw.frame())
        for row in rows:
            tell(made, row)
            seen(made)
            for name in draw.effects:
                if name in [told_row[1] for told_row in made.rows() if told_row[0] == "effect"]:
                    made.told(name)
            self.assertTrue(made.copy() == made)
            for question in ("notes", "log", "rows", "frames"):
                getattr(made, question)()
        self.assertTrue(replayed(made.rows()) == made)

    def test_a_full_stage(self):
        begun = time.perf_counter()
        rows = [("clock", "c")]
        for k in range(29):
            name = "ab"[k % 2] + chr(97 + k // 2)
            rows += [effect("e" + name, timing(5 + k, fill="both", times="endless" if k % 3 else 2)),
                     player("p" + name, "e" + name), ("play", "p" + name)]
        made = stage(*rows)
        for k in range(60):
            lead(made, frame(k))
            seen(made)
        self.assertLess(time.perf_counter() - begun, 5)
        self.assertEqual(made.told("eaa")[0], "after")
        self.assertEqual(ONE, timing())
