"""[20] to [24]: frames, queued finishes, the order of events, the stack, removals and commits."""

import unittest
from fractions import Fraction

from making import effect, events, frame, keys, lead, n, player, playing, refusal, stage, timing

BOTH = timing(fill="both")


def two(first="plain", second="plain", time=BOTH, other=BOTH):
    """A stage with two players p and q of effects e and f on the same property, both played at 0."""
    return stage(
        effect("e", time), effect("f", other, keys(0, 50)), ("clock", "c"), player("p", "e", kind=first),
        player("q", "f", kind=second), ("play", "p"), ("play", "q"), frame(0),
    )


class FramesTest(unittest.TestCase):
    def test_some_all_or_no_timelines(self):
        made = stage(("clock", "c"), ("clock", "d"), ("scrolled", "s"))
        lead(made, ("frame", (("d", n(4)), ("s", n(-1)), ("c", n(3)))), frame(5), ("frame", ()))
        self.assertEqual([made.now(line) for line in "cds"], [n(5), n(4), n(-1)])
        self.assertEqual(made.frames(), 3)

    def test_the_same_time_again(self):
        made = lead(playing(), frame(4), frame(4))
        self.assertEqual([made.time("p"), made.frames()], [n(4), 3])

    def test_times_that_fall(self):
        made = lead(playing(), frame(4))
        self.assertEqual(refusal(made, frame(Fraction(39, 10))), "time")
        self.assertEqual([made.frames(), made.now("c")], [2, n(4)])

    def test_a_frame_does_what_is_pending_for_players_whose_timeline_has_a_time(self):
        made = stage(
            effect("e"), effect("f"), ("clock", "c"), ("clock", "d"), player("p", "e", "c"), player("q", "f", "d"),
            ("play", "q"), ("play", "p"), frame(1),
        )
        self.assertEqual([made.pending("p"), made.pending("q"), made.notes()], [None, "play", [("ready", "p")]])
        lead(made, ("frame", ()), frame(0, "d"))
        self.assertEqual(made.notes(), [("ready", "p"), ("ready", "q")])

    def test_players_are_done_in_the_order_of_making(self):
        made = stage(effect("e"), effect("f"), ("clock", "c"), player("z", "e"), player("a", "f"))
        lead(made, ("play", "a"), ("play", "z"), frame(0), frame(10))
        wanted = [("ready", "z"), ("ready", "a"), ("finished", "z"), ("finished", "a")]
        self.assertEqual(made.notes(), wanted)

    def test_removed_players_go_on(self):
        made = lead(two(), frame(10))
        self.assertEqual(made.marks("p")[2], "removed")
        lead(made, ("seek", "p", n(4)), frame(13))
        self.assertEqual([made.time("p"), made.marks("p")], [n(7), ("settled", "open", "removed")])

    def test_ready_comes_ahead_of_the_finish_in_one_frame(self):
        made = stage(effect(time=timing(0)), ("clock", "c"), player(), ("play", "p"), frame(3))
        self.assertEqual(made.notes(), [("ready", "p"), ("finished", "p")])
        self.assertEqual(made.log(), [(1, ("finish", "p", n(0), n(3)))])


class QueueTest(unittest.TestCase):
    """[22]"""

    def test_in_the_order_in_which_they_were_queued(self):
        made = lead(two(), ("seek", "q", n(10)), ("seek", "p", n(10)), ("settle",))
        self.assertEqual(made.notes()[2:], [("finished", "q"), ("finished", "p")])
        self.assertEqual([event[1] for event in made.waiting()], ["q", "p"])
        self.assertEqual([made.full("p")[8], made.full("q")[8]], [0, 0])

    def test_settle_tells_no_events(self):
        made = lead(two(), ("seek", "q", n(10)), ("settle",))
        self.assertEqual([made.log(), made.waiting()], [[], [("finish", "q", n(10), n(0))]])
        lead(made, ("frame", ()))
        self.assertEqual([made.log(), made.waiting()], [[(2, ("finish", "q", n(10), n(0)))], []])

    def test_settle_without_anything(self):
        made = two()
        before = made.copy()
        self.assertTrue(lead(made, ("settle",)) == before)

    def test_one_that_is_not_finished_any_more(self):
        made = lead(two(), ("seek", "p", n(10)), ("seek", "p", n(9)), ("settle",))
        self.assertEqual([made.waiting(), made.marks("p")[1]], [[], "open"])

    def test_a_finish_tells_its_time_and_due_time(self):
        made = lead(playing(), ("seek", "p", n(30)), ("rate", "p", n(2)), ("settle",))
        self.assertEqual(made.waiting(), [("finish", "p", n(30), n(-25))])

    def test_due_at_the_time_0_on_a_way_backwards(self):
        made = lead(playing(), frame(4), ("rate", "p", n(-2)), frame(9))
        self.assertEqual(made.log(), [(3, ("finish", "p", n(0), n(6)))])

    def test_no_due_time_without_a_start(self):
        made = lead(stage(effect(), ("clock", "c"), player()), ("play", "p"), ("finish", "p"))
        self.assertEqual(made.waiting(), [("finish", "p", n(10), None)])


class LogTest(unittest.TestCase):
    """[20], step 6."""

    def test_by_due_times(self):
        made = lead(two(time=timing(8), other=timing(5)), frame(20))
        self.assertEqual(made.log(), [(2, ("finish", "q", n(5), n(5))), (2, ("finish", "p", n(8), n(8)))])

    def test_those_without_a_due_time_first(self):
        made = stage(effect("e"), effect("f"), ("clock", "c"), player("p", "e"), player("q", "f"))
        lead(made, ("play", "p"), frame(-9), ("seek", "p", n(10)), ("settle",), ("play", "q"), ("finish", "q"))
        lead(made, ("cancel", "q"), ("follow", "q", None), ("seek", "q", n(1)), ("cancel", "q"), ("frame", ()))
        self.assertEqual([event[0] for event in events(made)], ["cancel", "finish", "finish", "cancel"])
        self.assertEqual([event[3] for event in events(made)], [None, n(-9), n(-9), n(-9)])

    def test_of_equal_ones_by_the_stack(self):
        made = lead(two("plain", "styled"), ("cancel", "p"), ("cancel", "q"), frame(1))
        self.assertEqual(events(made, "cancel"), [("cancel", "q", None, n(0)), ("cancel", "p", None, n(0))])

    def test_of_equal_ones_of_one_player_as_they_were_kept(self):
        made = lead(playing(), ("cancel", "p"), ("seek", "p", n(2)), ("start", "p", n(-10)), ("settle",), frame(0))
        self.assertEqual([event[0] for event in events(made)], ["cancel", "finish"])
        made = lead(playing(), ("finish", "p"), frame(0), ("seek", "p", n(10)), ("cancel", "p"), ("seek", "p", n(1)))
        lead(made, ("cancel", "p"), ("frame", ()))
        self.assertEqual([event[0] for event in events(made)], ["finish", "cancel", "cancel"])

    def test_each_with_the_number_of_its_frame(self):
        made = lead(playing(), frame(1), ("cancel", "p"), frame(2), ("frame", ()), ("play", "p"), frame(3), frame(13))
        self.assertEqual([number for number, _ in made.log()], [3, 6])

    def test_none_is_kept_any_more(self):
        made = lead(playing(), ("cancel", "p"), frame(1), frame(2))
        self.assertEqual([len(made.log()), made.waiting()], [1, []])


class StackTest(unittest.TestCase):
    """[23]"""

    def test_styled_ones_lie_below_plain_ones(self):
        made = two("plain", "styled")
        self.assertEqual(made.stack("box", "x"), ["f", "e"])
        made = two("styled", "plain")
        self.assertEqual(made.stack("box", "x"), ["e", "f"])

    def test_each_sort_in_the_order_of_making(self):
        self.assertEqual(two().stack("box", "x"), ["e", "f"])
        made = stage(effect("e"), effect("f"), ("clock", "c"), player("z", "f"), player("a", "e"))
        lead(made, ("play", "a"), ("play", "z"), frame(0))
        self.assertEqual(made.stack("box", "x"), ["f", "e"])

    def test_transitions_lie_lowest(self):
        made = two("styled", "plain")
        lead(made, ("transit", "box", "x", "c", n(10), n(0), BOTH[7]), ("style", (("box", "x", n(8)),)), frame(5))
        self.assertEqual(made.stack("box", "x"), [("way", "box", "x", 0), "e", "f"])

    def test_what_is_not_in_effect_is_left_out(self):
        made = lead(two(time=timing(4)), frame(5))
        self.assertEqual(made.stack("box", "x"), ["f"])
        self.assertEqual(made.value("box", "x"), n(25))

    def test_other_targets_and_properties_are_left_out(self):
        made = two()
        self.assertEqual([made.stack("dot", "x"), made.stack("box", "y")], [[], []])
        self.assertEqual([made.value("dot", "x"), made.value("box", "y")], [n(0), n(0)])

    def test_each_effect_stands_on_what_came_so_far(self):
        rows = [effect(name, BOTH, keys(value, value), mode="add") for name, value in (("d", 3), ("e", 4), ("f", 5))]
        made = stage(
            *rows, ("style", (("box", "x", n(100)),)), ("group", "g", timing(None, fill="both"), ("e", "d")),
            ("clock", "c"), player("p", "f"), player("q", "g"), ("play", "p"), ("play", "q"), frame(0),
        )
        self.assertEqual([made.stack("box", "x"), made.value("box", "x")], [["f", "e", "d"], n(112)])

    def test_the_value_is_that_of_the_present_moment(self):
        made = lead(two(), ("seek", "q", n(4)))
        self.assertEqual(made.value("box", "x"), n(20))
        self.assertEqual(lead(made, ("cancel", "q")).value("box", "x"), n(0))


class RemovalTest(unittest.TestCase):
    """[24]"""

    def marks(self, made, *names):
        return [made.marks(name)[2] for name in names]

    def test_a_covered_player_is_removed(self):
        made = lead(two(other=timing(8, fill="both")), frame(9))
        self.assertEqual(self.marks(made, "p", "q"), ["active", "active"])
        lead(made, frame(10))
        self.assertEqual(self.marks(made, "p", "q"), ["removed", "active"])
        self.assertEqual(events(made)[-2:], [("finish", "p", n(10), n(10)), ("remove", "p", n(10), n(10))])
        self.assertEqual(made.stack("box", "x"), ["f"])

    def test_it_stays_so_until_it_is_kept(self):
        made = lead(two(), frame(10), ("seek", "p", n(4)), frame(11))
        self.assertEqual(self.marks(made, "p"), ["removed"])
        self.assertEqual(made.stack("box", "x"), ["f"])
        lead(made, ("keep", "p"))
        self.assertEqual([self.marks(made, "p"), made.stack("box", "x")], [["kept"], ["e", "f"]])
        lead(made, frame(40))
        self.assertEqual(self.marks(made, "p"), ["kept"])

    def test_a_kept_one_is_not_removed_but_covers(self):
        made = lead(two(), ("keep", "p"), ("keep", "q"), frame(10))
        self.assertEqual(self.marks(made, "p", "q"), ["kept", "kept"])
        made = lead(two(), ("keep", "q"), frame(10))
        self.assertEqual(self.marks(made, "p", "q"), ["removed", "kept"])

    def test_all_at_once(self):
        rows = [effect(name, BOTH) for name in ("d", "e", "f")]
        rows += [("clock", "c"), player("a", "f"), player("m", "e"), player("z", "d")]
        made = stage(*rows, ("play", "z"), ("play", "m"), ("play", "a"), frame(0), frame(10))
        self.assertEqual(self.marks(made, "a", "m", "z"), ["removed", "removed", "active"])
        self.assertEqual([event[1] for event in events(made, "remove")], ["a", "m"])

    def test_a_removed_one_does_not_cover(self):
        rows = [effect(name, BOTH) for name in ("d", "e", "f")]
        rows += [("clock", "c"), player("a", "d"), player("m", "e"), player("z", "f")]
        made = stage(*rows, ("play", "m"), ("play", "z"), frame(0), frame(10))
        self.assertEqual(self.marks(made, "m", "z"), ["removed", "active"])
        lead(made, ("cancel", "z"), ("play", "a"), frame(11), frame(30))
        self.assertEqual([made.state("a"), self.marks(made, "a", "m")], ["finished", ["active", "removed"]])
        lead(made, ("keep", "m"), frame(31))
        self.assertEqual(self.marks(made, "a", "m"), ["removed", "kept"])

    def test_each_target_and_property_is_covered_somewhere(self):
        both = tuple((offset, None, BOTH[7], (("x", n(1)), ("y", n(1)))) for offset in (None, None))
        parts = {"d": both, "e": keys(1, 2, name="x"), "f": keys(1, 2, name="y")}
        for names, wanted in ((("d", "e", "f"), "removed"), (("d", "e"), "active"), (("d", "f"), "active")):
            made = stage(*[effect(name, BOTH, parts[name]) for name in names], ("clock", "c"))
            for name in names:
                lead(made, player("p" + name, name), ("play", "p" + name))
            lead(made, frame(0), frame(10))
            self.assertEqual(made.marks("pd")[2], wanted)

    def test_another_target_does_not_cover(self):
        made = stage(effect("e", BOTH), effect("f", BOTH, target="dot"), ("clock", "c"), player("p", "e"), player("q", "f"))
        lead(made, ("play", "p"), ("play", "q"), frame(0), frame(10))
        self.assertEqual(self.marks(made, "p", "q"), ["active", "active"])

    def test_one_below_does_not_cover(self):
        made = lead(two(), ("finish", "p"), frame(5))
        self.assertEqual(self.marks(made, "p", "q"), ["active", "active"])

    def test_styled_players_are_neither_removed_nor_cover(self):
        for kinds in (("styled", "plain"), ("styled", "styled"), ("plain", "styled")):
            self.assertEqual(self.marks(lead(two(*kinds), frame(10)), "p", "q"), ["active", "active"])

    def test_only_finished_players_with_effects_in_effect(self):
        self.assertEqual(self.marks(lead(two(other=timing(20, fill="both")), frame(10)), "p"), ["active"])
        self.assertEqual(self.marks(lead(two(other=timing(5)), frame(10)), "p"), ["active"])
        self.assertEqual(self.marks(lead(two(time=timing(5)), frame(10)), "p"), ["active"])

    def test_only_on_clocks(self):
        made = stage(effect("e", BOTH), effect("f", BOTH), ("scrolled", "s"), ("clock", "c"), player("p", "e", "s"))
        lead(made, player("q", "f"), ("play", "p"), ("play", "q"), ("frame", (("c", n(0)), ("s", n(0)))))
        lead(made, ("frame", (("c", n(10)), ("s", n(10)))))
        self.assertEqual(self.marks(made, "p"), ["active"])
        self.assertEqual(self.marks(lead(made, ("follow", "p", "c"), frame(11)), "p"), ["removed"])

    def test_without_effects_with_a_target(self):
        made = stage(("group", "g", BOTH, ()), ("clock", "c"), player("p", "g"), player("q", None), effect("f", BOTH))
        lead(made, player("r", "f"), ("finish", "p"), ("finish", "q"), ("finish", "r"), frame(0), frame(10))
        lead(made, ("finish", "p"), ("finish", "q"), ("finish", "r"), frame(10))
        self.assertEqual(self.marks(made, "p", "q", "r"), ["active"] * 3)

    def test_each_effect_of_a_group_is_in_effect(self):
        for fill, wanted in (("both", "removed"), ("none", "active")):
            made = stage(
                effect("a", timing(4, fill=fill)), effect("b", timing(10, fill="both")),
                ("group", "g", timing(None, fill="both"), ("a", "b")), effect("f", BOTH), ("clock", "c"),
                player("p", "g"), player("q", "f"), ("play", "p"), ("play", "q"), frame(0), frame(10),
            )
            self.assertEqual(self.marks(made, "p"), [wanted])

    def test_queued_finishes_come_ahead_of_removals(self):
        made = lead(two(), frame(10))
        self.assertEqual([event[:2] for event in events(made)], [("finish", "p"), ("remove", "p"), ("finish", "q")])

    def test_the_due_time_is_the_time_of_the_timeline(self):
        made = lead(two(), frame(17))
        self.assertEqual(events(made, "remove"), [("remove", "p", n(10), n(17))])


class CommitTest(unittest.TestCase):
    def test_the_value_becomes_that_of_the_style(self):
        made = lead(two(), frame(4), ("commit", "p"))
        self.assertEqual([made.style("box", "x"), made.value("box", "x")], [n(40), n(20)])
        lead(made, ("commit", "q"))
        self.assertEqual(made.style("box", "x"), n(20))

    def test_what_lies_above_is_left_out_and_what_lies_below_is_not(self):
        rows = [effect(name, BOTH, keys(value, value), mode="add") for name, value in (("d", 3), ("e", 4), ("f", 5))]
        made = stage(*rows, ("clock", "c"), player("p", "d"), player("q", "e"), player("r", "f"))
        lead(made, ("play", "p"), ("play", "q"), ("play", "r"), frame(0), ("commit", "q"))
        self.assertEqual([made.style("box", "x"), made.value("box", "x")], [n(7), n(19)])

    def test_effects_one_after_the_other(self):
        made = stage(
            effect("d", BOTH, keys(3, 3), mode="add"), effect("e", BOTH, keys(4, 4), mode="add"), ("clock", "c"),
            ("group", "g", BOTH, ("e", "d")), player("p", "g"), ("play", "p"), frame(0), ("commit", "p"),
        )
        self.assertEqual(made.style("box", "x"), n(11))

    def test_removed_players_count_for_themselves_alone(self):
        made = lead(two(), frame(10), ("commit", "p"))
        self.assertEqual([made.marks("p")[2], made.style("box", "x")], ["removed", n(100)])
        made = stage(
            effect("d", BOTH, keys(3, 3), mode="add"), effect("e", BOTH, keys(4, 4), mode="add"), ("clock", "c"),
            player("p", "d"), player("q", "e"), ("play", "p"), ("play", "q"), frame(0), frame(10), ("commit", "q"),
        )
        self.assertEqual(made.style("box", "x"), n(4))

    def test_only_what_is_in_effect(self):
        for rows in ([], [("cancel", "p")], [frame(30)]):
            made = lead(playing(timing(delay=2)), *rows, ("commit", "p"))
            self.assertEqual(made.style("box", "x"), n(0))
        self.assertEqual(stage(player(lead=None, line=None), ("commit", "p")).rows()[-1], ("commit", "p"))

    def test_all_properties_and_targets(self):
        both = tuple((None, None, BOTH[7], (("x", n(value)), ("y", n(-value)))) for value in (0, 10))
        made = stage(effect("d", BOTH, both), effect("e", BOTH, target="dot"), ("group", "g", BOTH, ("d", "e")))
        lead(made, ("clock", "c"), player("p", "g"), ("play", "p"), frame(0), frame(5), ("commit", "p"))
        self.assertEqual([made.style("box", "x"), made.style("box", "y"), made.style("dot", "x")], [n(5), n(-5), n(50)])

    def test_no_transition_begins_and_no_completed_value_is_forgotten(self):
        made = lead(playing(), ("transit", "box", "x", "c", n(4), n(0), BOTH[7]), ("style", (("box", "x", n(8)),)))
        lead(made, frame(4))
        self.assertEqual(made.transition("box", "x"), (None, n(8)))
        lead(made, ("commit", "p"))
        self.assertEqual([made.style("box", "x"), made.transition("box", "x")], [n(40), (None, n(8))])

    def test_a_transition_can_be_committed(self):
        made = lead(playing(), ("transit", "box", "x", "c", n(4), n(0), BOTH[7]), ("style", (("box", "x", n(8)),)))
        lead(made, frame(1), ("commit", ("way", "box", "x", 0)))
        self.assertEqual(made.style("box", "x"), n(2))
