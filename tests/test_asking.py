"""[30], [31] and the end of [32]: questions, copies, equal stages, rows."""

import inspect
import unittest
from fractions import Fraction

from framecues import stages
from framecues.errors import NoName, NoRow, Refused
from framecues.stages import Stage, replayed
from histories import Calm, Draw, Ways, history
from making import ONE, STRAIGHT, effect, frame, keys, lead, n, player, playing, stage, timing
from strange import ALL, NEAR_FRACTIONS

WAY = ("way", "box", "x", 0)
PLAYER_QUESTIONS = ("time", "state", "rates", "pending", "marks", "start", "hold", "full", "next_change")
PAIR_QUESTIONS = ("value", "style", "stack", "transition")
LISTS = ("notes", "log", "waiting", "players", "rows")
NO_NAMES = [thing for thing in ALL if not isinstance(thing, str)] + NEAR_FRACTIONS + [
    "", "A", "x1", "abcdefghijklm", "a b", "\u00e4", ("way", "box", "x"), ("way", "box", "x", -1), Stage(), [WAY],
    ("way", "box", "x", True), ("way", "box", "x", False), ("way", "box", "x", 0.0), ("way", ["box"], "x", 0),
]


def busy():
    """A stage with something to tell at each question."""
    made = stage(
        effect(time=timing(10, times=2)), effect("f"), ("group", "g", timing(None), ("f",)), ("clock", "c"),
        ("scrolled", "s"), ("clock", "d"), player(kind="styled"), player("q", "g"), player("r", None, None),
        ("transit", "box", "x", "c", n(10), n(0), STRAIGHT), ("transit", "box", "y", "c", n(1), n(0), STRAIGHT),
        ("play", "p"), frame(2), ("style", (("box", "x", n(8)), ("box", "y", n(9)))), frame(5),
        ("play", "q"), frame(6), ("seek", "q", n(10)), ("cancel", "p"), ("smooth", WAY, n(2)),
    )
    return made


class QuestionsTest(unittest.TestCase):
    def test_of_players(self):
        made = lead(playing(), frame(4), ("smooth", "p", n(2)), ("keep", "p"))
        found = [getattr(made, question)("p") for question in PLAYER_QUESTIONS[:7]]
        self.assertEqual(found, [n(4), "running", (n(1), n(2)), "play", ("open", "open", "kept"), n(0), None])

    def test_of_transitions(self):
        made = busy()
        found = [getattr(made, question)(WAY) for question in PLAYER_QUESTIONS[:7]]
        self.assertEqual(found, [n(4), "running", (n(1), n(2)), "play", ("open", "open", "active"), n(2), None])

    def test_of_effects_and_groups(self):
        made = lead(playing(timing(10, times=2)), frame(13))
        wanted = ("active", n(13), n(Fraction(13, 10)), n(Fraction(3, 10)), 1, n(Fraction(3, 10)), n(Fraction(3, 10)))
        self.assertEqual(made.told("e"), wanted)
        self.assertEqual(busy().told("g")[:2], ("after", None))

    def test_of_timelines(self):
        made = busy()
        self.assertEqual([made.now("c"), made.now("s"), made.now("d")], [n(6), None, None])

    def test_of_properties(self):
        made = busy()
        self.assertEqual(made.value("box", "x"), n(Fraction(8 * 4, 10)))
        self.assertEqual(made.style("box", "x"), n(8))
        self.assertEqual(made.stack("box", "x"), [WAY])
        self.assertEqual(made.transition("box", "x"), (WAY, None))
        self.assertEqual(made.transition("box", "y"), (None, n(9)))
        self.assertEqual([made.value("no", "name"), made.style("no", "name")], [n(0), n(0)])
        self.assertEqual([made.stack("no", "name"), made.transition("no", "name")], [[], (None, None)])

    def test_lists_and_the_number_of_frames(self):
        made = busy()
        self.assertEqual(made.frames(), 3)
        self.assertEqual(made.players(), ["p", "q", "r", WAY, ("way", "box", "y", 1)])
        notes = [("ready", "p"), ("finished", ("way", "box", "y", 1)), ("ready", "q"), ("finished refused", "p")]
        self.assertEqual(made.notes(), notes)
        self.assertEqual(made.waiting(), [("cancel", "p", None, n(6))])
        self.assertEqual(made.log()[0], (1, ("effect start", "p", n(0), n(2))))
        self.assertEqual([number for number, _ in made.log()], [1] + [2] * (len(made.log()) - 1))

    def test_an_empty_stage(self):
        made = Stage()
        self.assertEqual([getattr(made, question)() for question in LISTS], [[]] * 5)
        self.assertEqual(made.frames(), 0)

    def test_arguments_by_name(self):
        made = busy()
        self.assertEqual(made.time(player=WAY), n(4))
        self.assertEqual(made.told(name="e")[0], "idle")
        self.assertEqual(made.now(timeline="c"), n(6))
        self.assertEqual(made.style(name="x", target="box"), n(8))
        self.assertEqual(made.full(player="r")[10], None)

    def test_what_is_asked_changes_nothing(self):
        made, same = busy(), busy()
        for name in made.players():
            for question in PLAYER_QUESTIONS[:8]:
                getattr(made, question)(name)
        for question in PAIR_QUESTIONS:
            getattr(made, question)("box", "x")
        self.assertTrue(made == same)
        self.assertEqual(made.log(), same.log())


class NoNameTest(unittest.TestCase):
    def test_of_players(self):
        made = busy()
        others = ["e", "g", "c", "s", "none", "box", ("way", "box", "x", 1), ("way", "x", "box", 0)]
        for question in PLAYER_QUESTIONS:
            for thing in NO_NAMES + others:
                with self.assertRaises(NoName):
                    getattr(made, question)(thing)

    def test_of_effects_and_timelines(self):
        made = busy()
        for thing in NO_NAMES + ["none", "p", "box", WAY]:
            for question, other in ((made.told, "c"), (made.now, "e")):
                with self.assertRaises(NoName):
                    question(thing)
                with self.assertRaises(NoName):
                    question(other)

    def test_of_properties(self):
        made = busy()
        for question in PAIR_QUESTIONS:
            for thing in NO_NAMES + [WAY]:
                for pair in ((thing, "x"), ("box", thing), (thing, thing)):
                    with self.assertRaises(NoName):
                        getattr(made, question)(*pair)

    def test_next_change_looks_at_the_name_first(self):
        with self.assertRaises(NoName):
            busy().next_change("none")
        with self.assertRaises(Refused) as caught:
            busy().next_change("r")
        self.assertEqual(caught.exception.kind, "state")


class ListsTest(unittest.TestCase):
    def test_returned_lists_are_new(self):
        made = busy()
        for question in LISTS:
            first = getattr(made, question)()
            kept = list(first)
            self.assertTrue(kept)
            first.append("more")
            del first[0]
            self.assertEqual(getattr(made, question)(), kept)
        first = made.stack("box", "x")
        first.clear()
        self.assertEqual(made.stack("box", "x"), [WAY])
        self.assertTrue(made == busy())

    def test_lists_that_were_returned_do_not_grow(self):
        made = busy()
        kept = [(question, getattr(made, question)()) for question in LISTS]
        sizes = [len(found) for _, found in kept]
        lead(made, frame(30), player("new", None, None), ("cancel", WAY))
        self.assertEqual([len(found) for _, found in kept], sizes)

    def test_a_passed_list_may_be_changed_later(self):
        rows = [("clock", "c"), frame(3)]
        made = replayed(rows)
        rows.clear()
        self.assertEqual(made.rows(), [("clock", "c"), frame(3)])


class CopyTest(unittest.TestCase):
    def test_a_copy_is_like_its_stage(self):
        made = busy()
        twin = made.copy()
        self.assertTrue(twin == made)
        self.assertIsInstance(twin, Stage)
        for question in LISTS + ("frames",):
            self.assertEqual(getattr(twin, question)(), getattr(made, question)())

    def test_both_go_their_own_ways(self):
        rows = [frame(9), ("retime", "f", timing(3)), ("cancel", "q"), ("use", "q", None), ("follow", "q", "d"),
                ("style", (("box", "x", n(0)),)), ("still", "box", "x"), ("settle",), ("commit", WAY), ("keep", "p"),
                ("seek", "r", n(2)), ("group", "h", ONE, ()), frame(9, "d")]
        for row in rows:
            made = busy()
            twin = made.copy()
            lead(made, row)
            self.assertTrue(twin == busy(), row)
            self.assertEqual(twin.rows(), busy().rows())
            self.assertEqual([twin.notes(), twin.log(), twin.frames()], [busy().notes(), busy().log(), busy().frames()])
            lead(twin, row)
            self.assertTrue(twin == made, row)
            self.assertEqual([twin.notes(), twin.log(), twin.waiting()], [made.notes(), made.log(), made.waiting()])

    def test_all_parts_are_copied(self):
        for kind in (Draw, Calm, Ways):
            for seed in range(60):
                made = history(seed, 30, kind)
                twin = made.copy()
                self.assertTrue(twin == made)
                self.assertEqual([twin.full(name) for name in twin.players()], [made.full(name) for name in made.players()])

    def test_what_is_kept_or_removed_stays_so(self):
        made = lead(playing(timing(fill="both")), effect("f", timing(fill="both")), player("q", "f"), ("keep", "q"))
        lead(made, ("finish", "p"), ("finish", "q"), frame(1))
        self.assertEqual([made.copy().marks(name)[2] for name in ("p", "q")], ["removed", "kept"])

    def test_a_copy_of_a_copy(self):
        made = busy().copy().copy()
        self.assertTrue(lead(made, frame(9)) == lead(busy(), frame(9)))

    def test_what_a_copy_leads_is_its_own(self):
        made = busy()
        twin = lead(made.copy(), ("use", "p", None), player("new", "e"))
        self.assertEqual([twin.full("new")[11], made.full("p")[11]], ["e", "e"])
        with self.assertRaises(Refused):
            made.do(player("new", "e"))


class EqualTest(unittest.TestCase):
    def check(self, base, *others):
        """Stages that are made by these rows differ from each other."""
        made = [stage(*base, *rows) for rows in others]
        for at, one in enumerate(made):
            for k, other in enumerate(made):
                self.assertIs(one == other, at == k, (others[at], others[k]))
                self.assertIs(one != other, at != k)
            self.assertTrue(one == stage(*base, *others[at]))

    def test_other_things_are_not_equal(self):
        for thing in ALL + [(), "settle", Stage, object()]:
            self.assertFalse(Stage() == thing)
            self.assertTrue(Stage() != thing)

    def test_the_things_and_their_order(self):
        self.check([], [], [("clock", "c")], [("scrolled", "c")], [("clock", "d")], [("clock", "c"), ("clock", "d")],
                   [("clock", "d"), ("clock", "c")])
        self.check([], [], [effect()], [effect("f")], [effect(), effect("f")], [effect("f"), effect()])
        self.check([], [], [player("p", None, None)], [player("p", None, None, "styled")],
                   [player("p", None, None), player("q", None, None)], [player("q", None, None), player("p", None, None)])

    def test_the_order_of_things_of_different_sorts_does_not_matter(self):
        rows = [("clock", "c"), effect(), player("p", None, None)]
        self.assertTrue(stage(*rows) == stage(*rows[::-1]))

    def test_the_parts_of_effects(self):
        self.check([], [effect()], [effect(target="dot")], [effect(mode="add")], [effect(going="on")],
                   [effect(time=timing(9))], [effect(frames=keys(0, 1))], [effect(), ("retime", "e", timing(8))])
        self.assertTrue(stage(effect(), ("retime", "e", timing(8))) == stage(effect(time=timing(8))))

    def test_the_parts_of_groups(self):
        base = [effect("a"), effect("b")]
        self.check(base, [("group", "g", ONE, ())], [("sequence", "g", ONE, ())], [("group", "g", timing(9), ())],
                   [("group", "g", ONE, ("a",))], [("group", "g", ONE, ("b",))], [("group", "g", ONE, ("a", "b"))],
                   [("group", "g", ONE, ("b", "a"))], [])

    def test_times_and_last_times_of_timelines(self):
        self.check([("clock", "c")], [], [frame(1)], [frame(2)], [frame(1), frame(None)], [frame(2), frame(None)])
        self.assertTrue(stage(("clock", "c"), frame(1), frame(2)) == stage(("clock", "c"), frame(2)))

    def test_values_of_the_style(self):
        style = ("style", (("box", "x", n(1)),))
        self.check([], [], [style], [("style", (("box", "x", n(2)),))], [("style", (("box", "y", n(1)),))],
                   [("style", (("dot", "x", n(1)),))])
        self.assertTrue(stage(style, ("style", (("box", "x", n(0)),))) == Stage())
        self.assertTrue(stage(("style", (("box", "x", n(0)),))) == Stage())

    def test_ways(self):
        rows = [[("transit", "box", "x", "c", n(3), n(1), STRAIGHT)], [("transit", "box", "x", "d", n(3), n(1), STRAIGHT)],
                [("transit", "box", "x", "c", n(4), n(1), STRAIGHT)], [("transit", "box", "x", "c", n(3), n(2), STRAIGHT)],
                [("transit", "box", "x", "c", n(3), n(1), ("steps", 1, "end"))],
                [("transit", "box", "y", "c", n(3), n(1), STRAIGHT)], []]
        self.check([("clock", "c"), ("clock", "d")], *rows)
        base = [("clock", "c"), ("clock", "d")]
        self.assertTrue(stage(*base, *rows[0], ("still", "box", "x")) == stage(*base))
        self.assertTrue(stage(*base, *rows[0], *rows[5]) == stage(*base, *rows[5], *rows[0]))

    def test_running_transitions(self):
        way, style = ("transit", "box", "x", "c", n(10), n(0), STRAIGHT), ("style", (("box", "x", n(8)),))
        base = [("clock", "c"), frame(0), way]
        self.check(base, [], [style], [("style", (("box", "x", n(9)),))])
        back = ("style", (("box", "x", n(0)),))
        half = [("clock", "c"), frame(0), way, style, frame(5), back]
        other = [("clock", "c"), frame(0), way, style, frame(5), ("transit", "box", "x", "c", n(5), n(0), STRAIGHT)]
        other += [("style", (("box", "x", n(3)),)), ("cancel", ("way", "box", "x", 1)), way]
        self.assertFalse(stage(*half) == stage(*other))

    def test_turning_values_and_factors(self):
        slow, fast = [("transit", "box", "x", "c", n(length), n(0), STRAIGHT) for length in (10, 5)]
        to, back = [("style", (("box", "x", n(value)),)) for value in (8, 0)]
        base = [("clock", "c"), frame(0), slow, to, frame(5)]
        turned = stage(*base, back)
        anew = stage(*base, ("commit", WAY), ("cancel", WAY), fast, back, slow)
        for question in ("players", "waiting"):
            self.assertEqual(getattr(turned, question)(), getattr(anew, question)())
        for question in ("value", "style", "transition"):
            self.assertEqual(getattr(turned, question)("box", "x"), getattr(anew, question)("box", "x"))
        self.assertEqual([turned.full(name) for name in turned.players()], [anew.full(name) for name in anew.players()])
        self.assertFalse(turned == anew)
        ends = [lead(made, to).next_change(("way", "box", "x", 2))[0] for made in (turned, anew)]
        self.assertEqual(ends, [n(10), n(15)])

    def test_completed_values_and_the_number_of_transitions(self):
        way, style = ("transit", "box", "x", "c", n(2), n(0), STRAIGHT), ("style", (("box", "x", n(8)),))
        base = [("clock", "c"), frame(0), way, style]
        done = stage(*base, frame(2))
        self.assertFalse(done == stage(*base, ("finish", ("way", "box", "x", 0)), frame(2)))
        gone = stage(*base, frame(2), ("still", "box", "x"), style, way)
        self.assertEqual([done.transition("box", "x"), gone.transition("box", "x")], [(None, n(8)), (None, None)])
        self.assertFalse(done == gone)

    def test_full_states(self):
        base = [effect(), ("clock", "c"), ("clock", "d"), effect("f"), player(), frame(0)]
        rows = [[], [("play", "p")], [("pause", "p")], [("play", "p"), frame(0)], [("play", "p"), frame(0), frame(4)],
                [("play", "p"), ("smooth", "p", n(2))], [("rate", "p", n(2))], [("keep", "p")], [("use", "p", "f")],
                [("use", "p", None)], [("follow", "p", "d")], [("follow", "p", None)], [("seek", "p", n(3))],
                [("seek", "p", n(3)), ("seek", "p", n(4))], [("start", "p", n(3))], [("start", "p", n(-30))],
                [("start", "p", n(-30)), ("settle",)], [("start", "p", n(-30)), ("frame", ())],
                [("play", "p"), frame(0), ("cancel", "p")]]
        self.check(base, *rows)
        self.assertTrue(stage(*base, *rows[-1], ("frame", ())) == stage(*base))

    def test_each_part_of_the_full_state_counts(self):
        for at in range(15):
            one, two = [lead(playing(timing(10, times=2)), *rows) for rows in DIFFERENT[at]]
            self.assertNotEqual(one.full("p")[at], two.full("p")[at])
            self.assertFalse(one == two)

    def test_kept_events_and_queued_finishes_and_their_order(self):
        base = [effect("e"), effect("f"), ("clock", "c"), player("p", "e"), player("q", "f"), ("play", "p"), ("play", "q"),
                frame(0)]
        one, two = ("seek", "p", n(10)), ("seek", "q", n(10))
        self.check(base, [one, two], [two, one], [one, two, ("settle",)], [two, one, ("settle",)])
        self.check(base, [("cancel", "p"), ("cancel", "q")], [("cancel", "q"), ("cancel", "p")])

    def test_notes_log_rows_and_frames_do_not_matter(self):
        one = lead(playing(), frame(4))
        two = lead(playing(), frame(2), ("frame", ()), ("settle",), frame(3), frame(4))
        self.assertTrue(one == two)
        self.assertNotEqual([one.frames(), one.rows()], [two.frames(), two.rows()])
        three = lead(playing(), ("cancel", "p"), frame(0), ("start", "p", n(0)), frame(4))
        self.assertNotEqual([three.notes(), three.log()], [one.notes(), one.log()])
        self.assertTrue(one == three)


# For each part of the full state two lists of rows behind playing() that lead to different ones.
DIFFERENT = [
    [[], [("start", "p", n(1))]],
    [[("pause", "p"), frame(3)], [("pause", "p"), frame(4)]],
    [[], [("rate", "p", n(2))]],
    [[("smooth", "p", n(2))], [("smooth", "p", n(3))]],
    [[], [("pause", "p")]],
    [[], [frame(4)]],
    [[("smooth", "p", n(2)), ("rate", "p", n(1)), ("play", "p")], [("smooth", "p", n(2)), frame(0), ("rate", "p", n(1))]],
    [[frame(20)], [("seek", "p", n(20))]],
    [[], [("seek", "p", n(20))]],
    [[], [("keep", "p")]],
    [[], [("follow", "p", None)]],
    [[], [("use", "p", None)]],
    [[], [("seek", "p", n(20)), ("frame", ())]],
    [[frame(4)], [frame(12)]],
    [[], [frame(3)]],
]


class RowsTest(unittest.TestCase):
    def test_rows_that_were_done(self):
        made = stage(("clock", "c"), frame(4))
        for row in (("clock", "c"), frame(3), ("play", "p")):
            with self.assertRaises(Refused):
                made.do(row)
        for row in (("clocks", "c"), [("clock", "d")], None):
            with self.assertRaises(NoRow):
                made.do(row)
        lead(made, ("settle",))
        self.assertEqual(made.rows(), [("clock", "c"), frame(4), ("settle",)])

    def test_replayed(self):
        made = busy()
        again = replayed(made.rows())
        self.assertTrue(again == made)
        self.assertEqual([again.rows(), again.log(), again.notes()], [made.rows(), made.log(), made.notes()])
        self.assertTrue(replayed([]) == Stage())
        self.assertTrue(replayed(rows=[("clock", "c")]) == stage(("clock", "c")))

    def test_replayed_takes_a_list(self):
        for thing in ALL + [(), (("clock", "c"),), ("clock", "c"), Stage()]:
            if not isinstance(thing, list):
                with self.assertRaises(NoRow):
                    replayed(thing)

    def test_replayed_raises_what_do_raises(self):
        with self.assertRaises(NoRow):
            replayed([("clock", "c"), ("clocks", "c")])
        with self.assertRaises(Refused) as caught:
            replayed([("clock", "c"), frame(3), frame(2)])
        self.assertEqual(caught.exception.kind, "time")


class InterfaceTest(unittest.TestCase):
    SIGNATURES = {
        "do": "(self, row)", "time": "(self, player)", "state": "(self, player)", "rates": "(self, player)",
        "pending": "(self, player)", "marks": "(self, player)", "start": "(self, player)", "hold": "(self, player)",
        "told": "(self, name)", "now": "(self, timeline)", "value": "(self, target, name)",
        "style": "(self, target, name)", "stack": "(self, target, name)", "transition": "(self, target, name)",
        "notes": "(self)", "log": "(self)", "frames": "(self)", "waiting": "(self)", "players": "(self)",
        "full": "(self, player)", "copy": "(self)", "next_change": "(self, player)", "rows": "(self)",
    }

    def test_each_method_is_defined_in_the_class(self):
        for name, signature in self.SIGNATURES.items():
            self.assertIn(name, vars(Stage))
            self.assertEqual(str(inspect.signature(vars(Stage)[name])), signature)

    def test_the_file_defines_them(self):
        self.assertEqual([Stage.__module__, replayed.__module__], ["framecues.stages"] * 2)
        self.assertEqual(str(inspect.signature(replayed)), "(rows)")
        self.assertIs(stages.Stage, Stage)
        self.assertEqual(Stage().rows(), [])
