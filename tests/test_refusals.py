"""[9], [10], [13]: what is refused, in which order, and that nothing is changed then."""

import unittest

from framecues.errors import CueError, Refused
from framecues.stages import Stage
from making import ONE, RISE, STRAIGHT, effect, frame, keys, lead, n, player, refusal, stage, timing

WAY = ("way", "box", "x", 0)


def full_stage():
    """A stage with a thing of each sort, and a transition."""
    return stage(
        effect("e"), effect("led"), effect("child"), effect("free"), ("group", "g", ONE, ("child",)),
        ("sequence", "row", ONE, ()), ("clock", "c"), ("clock", "d"), ("scrolled", "s"),
        player("p", "led", "c"), player("q", None, None),
        ("transit", "box", "x", "c", n(10), n(0), STRAIGHT), frame(5), ("style", (("box", "x", n(1)),)),
    )


class RefusalsTest(unittest.TestCase):
    def check(self, kind, *rows):
        """Each row is refused, and the stage is what it was."""
        for row in rows:
            made = full_stage()
            same = made.copy()
            with self.assertRaises(Refused) as caught:
                made.do(row)
            self.assertEqual(caught.exception.kind, kind, row)
            self.assertIsInstance(caught.exception, CueError)
            self.assertTrue(made == same, row)
            self.assertEqual(
                [made.rows(), made.notes(), made.log(), made.frames(), made.waiting()],
                [same.rows(), same.notes(), same.log(), same.frames(), same.waiting()],
            )

    def check_done(self, *rows):
        for row in rows:
            made = full_stage()
            self.assertIsNone(made.do(row))
            self.assertEqual(made.rows(), full_stage().rows() + [row])


class NamesTest(RefusalsTest):
    def test_names_that_are_taken(self):
        for name in ("e", "g", "row", "c", "s", "p", "q"):
            self.check(
                "name", effect(name), ("group", name, ONE, ()), ("sequence", name, ONE, ()), ("clock", name),
                ("scrolled", name), player(name, None, None),
            )

    def test_targets_properties_and_kinds_of_things_are_no_names_of_things(self):
        self.check_done(effect("box", target="e"), ("clock", "x"), player("plain", None, None), effect("way", target="c"))

    def test_names_that_are_missing(self):
        self.check(
            "name", ("retime", "none", ONE), ("group", "new", ONE, ("e", "none")), ("sequence", "new", ONE, ("none",)),
            player("new", "none", None), player("new", None, "none"), ("follow", "q", "none"), ("use", "q", "none"),
            ("transit", "box", "x", "none", n(1), n(0), STRAIGHT), frame(9, "none"),
        )
        for word in ("play", "pause", "reverse", "finish", "cancel", "keep", "commit"):
            self.check("name", (word, "none"), (word, ("way", "box", "x", 1)), (word, ("way", "box", "y", 0)))
        for word in ("seek", "start", "rate", "smooth"):
            self.check("name", (word, "none", n(1)), (word, ("way", "x", "box", 0), n(1)))
        for word in ("follow", "use"):
            self.check("name", (word, "none", None), (word, ("way", "x", "box", 0), None))

    def test_things_of_another_sort(self):
        for name in ("c", "s", "p"):
            self.check("name", ("retime", name, ONE), ("group", "new", ONE, (name,)), player("new", name, None))
            self.check("name", ("use", "q", name))
        for name in ("e", "g", "p"):
            self.check("name", player("new", None, name), ("follow", "q", name), frame(9, name))
            self.check("name", ("transit", "box", "x", name, n(1), n(0), STRAIGHT))
        for name in ("e", "g", "c", "s"):
            for word in ("play", "pause", "reverse", "finish", "cancel", "keep", "commit"):
                self.check("name", (word, name))
            self.check("name", ("seek", name, n(1)), ("rate", name, n(1)), ("follow", name, "c"), ("use", name, "e"))

    def test_a_way_needs_a_clock(self):
        self.check("name", ("transit", "box", "x", "s", n(1), n(0), STRAIGHT))
        self.check_done(("transit", "box", "x", "d", n(1), n(0), STRAIGHT))

    def test_a_thing_cannot_name_itself(self):
        self.check("name", ("group", "new", ONE, ("new",)), player("new", "new", None), player("new", None, "new"))

    def test_names_go_ahead_of_states_and_times(self):
        self.check(
            "name", ("group", "new", ONE, ("led", "none")), ("group", "e", ONE, ("led",)),
            player("new", "led", "none"), player("p", "led", None), ("use", "none", "led"), ("use", "q", "none"),
            ("follow", WAY, "none"), ("use", WAY, "none"), ("use", WAY, "c"), ("follow", WAY, "e"),
            ("frame", (("c", n(1)), ("none", n(9)))), ("frame", (("none", n(9)), ("c", n(1)))),
        )

    def test_names_are_never_used_again(self):
        made = full_stage()
        lead(made, ("use", "p", None), ("cancel", "p"), ("follow", "p", None))
        for row in (player("p", None, None), effect("led"), ("clock", "c")):
            self.assertEqual(refusal(made, row), "name")

    def test_a_refused_name_is_still_free(self):
        made = Stage()
        self.assertEqual(refusal(made, player("p", "e", None)), "name")
        self.assertEqual(refusal(made, ("group", "g", ONE, ("e",))), "name")
        lead(made, effect("p"), ("clock", "g"))


class StatesTest(RefusalsTest):
    def test_children_and_led_effects_have_no_parent_and_no_player(self):
        for name in ("led", "child"):
            self.check(
                "state", ("group", "new", ONE, (name,)), ("sequence", "new", ONE, ("e", name)),
                player("new", name, None), ("use", "q", name),
            )
        self.check_done(("group", "new", ONE, ("e", "g")), ("sequence", "new", ONE, ("g", "row")), player("new", "g"))

    def test_an_effect_is_free_again_when_its_player_takes_another(self):
        for row in (("use", "p", None), ("use", "p", "free")):
            made = lead(full_stage(), row)
            self.assertIsNone(refusal(made, player("new", "led", None)))
        made = lead(full_stage(), ("use", "p", "free"))
        self.assertEqual(refusal(made, player("new", "free", None)), "state")

    def test_to_use_or_follow_what_it_has_is_no_refusal(self):
        self.check_done(("use", "p", "led"), ("use", "q", None), ("follow", "p", "c"), ("follow", "q", None))

    def test_transitions_take_no_use_and_no_follow(self):
        self.check(
            "state", ("use", WAY, "e"), ("use", WAY, "led"), ("use", WAY, None), ("follow", WAY, "d"),
            ("follow", WAY, "c"), ("follow", WAY, None),
        )

    def test_reverse_needs_a_time_of_the_timeline(self):
        self.check("state", ("reverse", "q"))
        self.assertEqual(refusal(stage(("clock", "c"), player("p", None)), ("reverse", "p")), "state")

    def test_finish_needs_a_rate_and_an_end(self):
        made = stage(effect(time=timing("endless")), player(line=None))
        self.assertEqual(refusal(made, ("finish", "p")), "state")
        self.assertIsNone(refusal(lead(made, ("rate", "p", n(-1))), ("finish", "p")))
        self.assertEqual(refusal(lead(made, ("rate", "p", n(0))), ("finish", "p")), "state")

    def test_a_way_backwards_from_an_endless_end(self):
        made = stage(effect(time=timing("endless")), ("clock", "c"), player(), frame(0), ("rate", "p", n(-1)))
        before = made.copy()
        self.assertEqual([refusal(made, (word, "p")) for word in ("play", "pause")], ["state", "state"])
        self.assertTrue(made == before)

    def test_a_refused_reverse_leaves_the_pending_rate(self):
        made = stage(effect(time=timing("endless")), ("clock", "c"), player(), frame(0), ("play", "p"))
        lead(made, ("smooth", "p", n(2)))
        before = made.copy()
        self.assertEqual(refusal(made, ("reverse", "p")), "state")
        self.assertEqual(made.rates("p"), (n(1), n(2)))
        self.assertTrue(made == before)


class TimesTest(RefusalsTest):
    def test_to_seek_none_with_a_time(self):
        self.check("time", ("seek", WAY, None))
        self.check_done(("seek", "p", None), ("seek", "q", None))
        made = lead(full_stage(), ("seek", "p", n(3)))
        self.assertEqual(refusal(made, ("seek", "p", None)), "time")

    def test_clocks_that_fall(self):
        self.check("time", frame(4), ("frame", (("d", n(9)), ("c", n(4)))), ("frame", (("s", n(9)), ("c", n(4)))))
        self.check_done(frame(5), frame(6), frame(-7, "d"), frame(None), ("frame", ()))

    def test_a_clock_without_a_time_remembers_its_last_one(self):
        made = lead(full_stage(), frame(None))
        self.assertEqual(refusal(made, frame(4)), "time")
        self.assertIsNone(refusal(made, frame(5)))

    def test_scrolled_timelines_may_fall(self):
        made = lead(full_stage(), frame(9, "s"))
        self.assertIsNone(refusal(made, frame(-9, "s")))
        self.assertEqual(made.now("s"), n(-9))

    def test_a_refused_frame_sets_no_time(self):
        made = full_stage()
        self.assertEqual(refusal(made, ("frame", (("d", n(9)), ("c", n(4))))), "time")
        self.assertEqual([made.now("c"), made.now("d"), made.frames()], [n(5), None, 1])


class RetimeTest(unittest.TestCase):
    def test_retimed_effects(self):
        made = stage(effect(), ("clock", "c"), player(), ("play", "p"), frame(0), frame(5), ("retime", "e", timing(20)))
        self.assertEqual(made.told("e")[6], (1, 4))
        self.assertEqual(made.value("box", "x"), n(25))

    def test_the_player_looks(self):
        made = stage(effect(), ("clock", "c"), player(), ("play", "p"), frame(0), frame(5))
        lead(made, ("retime", "e", timing(4)))
        self.assertEqual([made.state("p"), made.hold("p"), made.full("p")[8]], ["finished", n(5), 1])
        lead(made, ("retime", "e", timing(8)))
        self.assertEqual([made.state("p"), made.hold("p")], ["running", None])

    def test_the_player_of_the_uppermost_group_looks(self):
        made = stage(
            effect(), ("group", "g", timing(None), ("e",)), ("sequence", "top", timing(None), ("g",)), ("clock", "c"),
            player(lead="top"), ("play", "p"), frame(0), frame(5), ("retime", "e", timing(4)),
        )
        self.assertEqual([made.state("p"), made.hold("p"), made.full("p")[8]], ["finished", n(5), 1])

    def test_without_a_player(self):
        made = stage(effect(), ("retime", "e", timing(4)), ("clock", "c"), player(), ("play", "p"), frame(0), frame(5))
        self.assertEqual(made.time("p"), n(4))

    def test_retimed_groups(self):
        made = stage(effect(), ("group", "g", ONE, ("e",)), ("clock", "c"), player(lead="g"), ("play", "p"), frame(0))
        lead(made, frame(5), ("retime", "g", timing(10, way="reverse", delay=2)))
        self.assertEqual(made.told("g")[1], n(3))
        self.assertEqual(made.told("e")[1], n(7))


class TargetsTest(unittest.TestCase):
    def test_effects_act_on_their_target_and_properties_alone(self):
        made = stage(effect(frames=keys(5, 5)), ("clock", "c"), player(), ("play", "p"), frame(0))
        self.assertEqual([made.value("box", "x"), made.value("box", "y"), made.value("dot", "x")], [n(5), n(0), n(0)])

    def test_modes_and_goings(self):
        base = [("clock", "c"), ("style", (("box", "x", n(4)),)), player(), ("play", "p"), frame(0), frame(15)]
        time = timing(times=3)
        for mode, going, wanted in (("replace", "anew", 50), ("replace", "on", 150), ("add", "anew", 54), ("add", "on", 154)):
            made = stage(effect(time=time, mode=mode, going=going), *base)
            self.assertEqual(made.value("box", "x"), n(wanted))

    def test_frames_are_not_changed(self):
        self.assertEqual(RISE, keys(0, 100))
