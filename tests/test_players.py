"""[12] to [19], [21]: timelines and players, led by rows."""

import itertools
import unittest
from fractions import Fraction

from histories import answers, tell
from making import effect, frame, lead, n, player, playing, refusal, stage, timing
from model import Model

HALF = Fraction(1, 2)
READY = ("ready", "p")
DONE = ("finished", "p")


def heart(made, name="p"):
    """Start, hold, rate, pending rate, task and time before."""
    return made.full(name)[:6]


def state(made, *wanted):
    return [getattr(made, question)("p") for question in wanted]


class TimelinesTest(unittest.TestCase):
    def test_at_first_without_a_time(self):
        made = stage(("clock", "c"), ("scrolled", "s"))
        self.assertEqual([made.now("c"), made.now("s")], [None, None])

    def test_frames_give_them_times(self):
        made = stage(("clock", "c"), ("scrolled", "s"), ("frame", (("c", n(5)), ("s", n(7)))))
        self.assertEqual([made.now("c"), made.now("s")], [n(5), n(7)])
        lead(made, frame(-2, "s"))
        self.assertEqual([made.now("c"), made.now("s")], [n(5), n(-2)])
        lead(made, frame(None))
        self.assertEqual([made.now("c"), made.now("s")], [None, n(-2)])


class NewPlayersTest(unittest.TestCase):
    def test_at_first(self):
        for line, lead_ in itertools.product((None, "c"), (None, "e")):
            made = stage(effect(), ("clock", "c"), player(lead=lead_, line=line))
            wanted = (None, None, n(1), None, None, None, "settled", "open", 0, "active", line, lead_, "idle", None, None)
            self.assertEqual(made.full("p"), wanted)
            self.assertEqual(state(made, "time", "state", "rates", "pending"), [None, "idle", (n(1), None), None])

    def test_the_same_for_both_sorts(self):
        for kind in ("plain", "styled"):
            self.assertEqual(stage(("player", "p", None, None, kind)).marks("p"), ("settled", "open", "active"))


class TimeAndStateTest(unittest.TestCase):
    def test_the_time_is_the_hold(self):
        made = lead(playing(), ("pause", "p"), frame(3), frame(7))
        self.assertEqual(state(made, "start", "hold", "time", "state"), [None, n(3), n(3), "paused"])

    def test_without_a_hold_it_follows_the_timeline(self):
        made = lead(playing(at=5), ("rate", "p", n(HALF)), frame(8))
        self.assertEqual(state(made, "start", "hold", "time", "state"), [n(5), None, n(Fraction(3, 2)), "running"])

    def test_without_a_time_of_the_timeline_there_is_none(self):
        made = lead(playing(), frame(4), frame(None))
        self.assertEqual(state(made, "start", "time", "state"), [n(0), None, "running"])
        lead(made, frame(6))
        self.assertEqual(made.time("p"), n(6))

    def test_idle(self):
        made = stage(effect(), ("clock", "c"), player(), frame(3))
        self.assertEqual(state(made, "time", "state"), [None, "idle"])

    def test_paused_ahead_of_finished(self):
        made = lead(playing(), frame(4), ("pause", "p"), ("seek", "p", n(10)))
        self.assertEqual(state(made, "start", "time", "state"), [None, n(10), "paused"])

    def test_finished_at_the_end_and_past_it(self):
        made = lead(playing(), frame(Fraction(99, 10)))
        self.assertEqual(made.state("p"), "running")
        self.assertEqual(lead(made, frame(10)).state("p"), "finished")
        self.assertEqual(lead(made, frame(11)).state("p"), "finished")

    def test_backwards_finished_at_0_and_below(self):
        made = lead(playing(), ("rate", "p", n(-1)), ("seek", "p", n(1)))
        self.assertEqual(made.state("p"), "running")
        self.assertEqual(lead(made, ("seek", "p", n(0))).state("p"), "finished")
        self.assertEqual(lead(made, ("seek", "p", n(-3))).state("p"), "finished")
        self.assertEqual(lead(made, ("seek", "p", n(30))).state("p"), "running")

    def test_the_pending_rate_tells_the_way(self):
        made = lead(playing(), ("seek", "p", n(-2)), ("smooth", "p", n(-1)))
        self.assertEqual(state(made, "rates", "pending", "state"), [(n(1), n(-1)), "play", "finished"])

    def test_never_finished_at_rate_0_or_with_an_endless_end(self):
        self.assertEqual(lead(playing(), ("rate", "p", n(0)), ("seek", "p", n(50))).state("p"), "running")
        self.assertEqual(lead(playing(timing("endless")), frame(10 ** 9)).state("p"), "running")

    def test_without_an_effect_the_end_is_0(self):
        made = stage(("clock", "c"), player(lead=None), ("play", "p"), frame(0))
        self.assertEqual(state(made, "state", "hold"), ["finished", n(0)])
        self.assertEqual(lead(made, ("start", "p", n(4))).state("p"), "running")


class LookTest(unittest.TestCase):
    """[16]"""

    def test_past_the_end_it_is_held_there(self):
        made = lead(playing(), frame(17))
        self.assertEqual(heart(made), (n(0), n(10), n(1), None, None, n(10)))

    def test_or_at_the_time_before_if_that_is_greater(self):
        made = lead(playing(), ("seek", "p", n(30)), frame(17))
        self.assertEqual(heart(made), (n(-30), n(30), n(1), None, None, n(30)))

    def test_sought_it_is_held_where_it_was_led(self):
        made = lead(playing(), ("seek", "p", n(30)))
        self.assertEqual(heart(made), (n(-30), n(30), n(1), None, None, n(30)))
        lead(made, ("rate", "p", n(-1)), ("seek", "p", n(-5)))
        self.assertEqual(made.hold("p"), n(-5))

    def test_backwards_it_is_held_at_0(self):
        made = lead(playing(), frame(4), ("rate", "p", n(-2)), frame(9))
        self.assertEqual(heart(made), (n(6), n(0), n(-2), None, None, n(0)))

    def test_or_at_the_time_before_if_that_is_less(self):
        made = lead(playing(), ("rate", "p", n(-1)), ("seek", "p", n(-3)), frame(5))
        self.assertEqual(made.hold("p"), n(-3))

    def test_let_go(self):
        made = lead(playing(), frame(12), ("retime", "e", timing(20)))
        self.assertEqual(heart(made), (n(0), None, n(1), None, None, n(12)))

    def test_sought_from_a_hold_the_start_follows(self):
        made = lead(playing(), frame(12), ("seek", "p", n(3)))
        self.assertEqual(heart(made), (n(9), None, n(1), None, None, n(3)))

    def test_at_rate_0_the_hold_stays(self):
        made = lead(playing(), frame(4), ("rate", "p", n(0)), ("seek", "p", n(20)), frame(6))
        self.assertEqual(heart(made), (n(0), n(20), n(0), None, None, n(20)))

    def test_a_finish_is_queued_once(self):
        made = lead(playing(), frame(4), ("seek", "p", n(10)), ("seek", "p", n(12)))
        self.assertEqual([made.full("p")[8], made.marks("p")[1]], [1, "open"])
        lead(made, ("settle",), ("seek", "p", n(14)), ("settle",))
        self.assertEqual(made.notes(), [READY, DONE])
        self.assertEqual(made.full("p")[7:9], ("settled", 0))

    def test_the_finished_note_is_opened_again(self):
        made = lead(playing(), frame(12))
        self.assertEqual(made.marks("p"), ("settled", "settled", "active"))
        lead(made, ("seek", "p", n(3)))
        self.assertEqual(made.marks("p"), ("settled", "open", "active"))
        lead(made, frame(40))
        self.assertEqual(made.notes(), [READY, DONE, DONE])

    def test_a_queued_finish_that_is_none_any_more_tells_nothing(self):
        made = lead(playing(), ("seek", "p", n(12)), ("seek", "p", n(3)), ("settle",))
        self.assertEqual([made.full("p")[8], made.notes(), made.waiting()], [0, [READY], []])


class SeekTest(unittest.TestCase):
    """[17]"""

    def test_a_running_player(self):
        made = lead(playing(), frame(4), ("seek", "p", n(7)))
        self.assertEqual(heart(made), (n(-3), None, n(1), None, None, n(7)))

    def test_at_another_rate(self):
        made = lead(playing(), frame(4), ("rate", "p", n(2)), ("seek", "p", n(7)))
        self.assertEqual(heart(made), (n(HALF), None, n(2), None, None, n(7)))

    def test_a_paused_player(self):
        made = lead(playing(), ("pause", "p"), frame(4), ("seek", "p", n(7)), frame(6))
        self.assertEqual(heart(made), (None, n(7), n(1), None, None, n(7)))

    def test_an_idle_player_is_paused_then(self):
        made = lead(stage(effect(), ("clock", "c"), player()), ("seek", "p", n(7)))
        self.assertEqual(heart(made), (None, n(7), n(1), None, None, n(7)))
        self.assertEqual(made.state("p"), "paused")

    def test_with_a_pending_pause(self):
        made = lead(playing(), frame(4), ("smooth", "p", n(2)), ("pause", "p"), ("seek", "p", n(7)))
        self.assertEqual(heart(made), (None, n(7), n(2), None, None, n(7)))
        self.assertEqual(made.notes(), [READY, READY])
        self.assertEqual(made.marks("p")[0], "settled")

    def test_with_a_pending_play(self):
        made = lead(stage(effect(), ("clock", "c"), player()), ("play", "p"), ("seek", "p", n(7)))
        self.assertEqual(heart(made), (None, n(7), n(1), None, "play", n(7)))

    def test_without_a_time_of_the_timeline_the_start_is_lost(self):
        made = lead(playing(), frame(4), frame(None), ("seek", "p", n(7)))
        self.assertEqual(heart(made), (None, n(7), n(1), None, None, n(7)))

    def test_none(self):
        made = lead(stage(effect(), player(line=None)), ("seek", "p", None))
        self.assertEqual(heart(made), (None, None, n(1), None, None, None))
        self.assertEqual(refusal(lead(made, ("seek", "p", n(0))), ("seek", "p", None)), "time")


class StartTest(unittest.TestCase):
    def test_a_start(self):
        made = lead(stage(effect(), ("clock", "c"), player(), frame(4)), ("start", "p", n(1)))
        self.assertEqual(heart(made), (n(1), None, n(1), None, None, n(3)))
        self.assertEqual([made.state("p"), made.notes()], ["running", []])

    def test_it_settles_what_is_pending(self):
        made = lead(playing(), frame(4), ("smooth", "p", n(2)), ("start", "p", n(1)))
        self.assertEqual(heart(made), (n(1), None, n(2), None, None, n(6)))
        self.assertEqual(made.notes(), [READY, READY])

    def test_none_holds_the_time(self):
        made = lead(playing(), frame(4), ("start", "p", None))
        self.assertEqual(heart(made), (None, n(4), n(1), None, None, n(4)))
        self.assertEqual(made.state("p"), "paused")

    def test_none_for_an_idle_player(self):
        made = lead(stage(effect(), ("clock", "c"), player()), ("start", "p", None))
        self.assertEqual([heart(made)[:2], made.state("p")], [(None, None), "idle"])

    def test_at_rate_0_the_hold_stays(self):
        made = lead(playing(), ("pause", "p"), frame(4), ("rate", "p", n(0)), ("start", "p", n(1)))
        self.assertEqual(heart(made), (n(1), n(4), n(0), None, None, n(4)))
        self.assertEqual(made.state("p"), "running")

    def test_without_a_time_of_the_timeline(self):
        made = lead(stage(effect(), player(line=None)), ("seek", "p", n(3)), ("start", "p", n(1)))
        self.assertEqual(heart(made), (n(1), None, n(1), None, None, None))
        self.assertEqual(made.state("p"), "running")

    def test_past_the_end(self):
        made = lead(playing(), frame(4), ("start", "p", n(-20)))
        self.assertEqual([heart(made)[:2], made.state("p")], [(n(-20), n(24)), "finished"])


class PlayTest(unittest.TestCase):
    """[18]"""

    def test_from_the_beginning(self):
        made = lead(stage(effect(), ("clock", "c"), player()), ("play", "p"))
        self.assertEqual(heart(made), (None, n(0), n(1), None, "play", n(0)))
        self.assertEqual([made.state("p"), made.marks("p")], ["running", ("open", "open", "active")])

    def test_it_becomes_ready_at_a_frame_with_a_time(self):
        made = lead(stage(effect(), ("clock", "c"), player()), ("play", "p"), ("frame", ()), frame(None))
        self.assertEqual([made.pending("p"), made.notes()], ["play", []])
        lead(made, frame(7))
        self.assertEqual(heart(made), (n(7), None, n(1), None, None, n(0)))
        self.assertEqual([made.marks("p"), made.notes()], [("settled", "open", "active"), [READY]])

    def test_a_paused_player_goes_on_where_it_is(self):
        made = lead(playing(), frame(4), ("pause", "p"), frame(4), ("play", "p"), frame(9))
        self.assertEqual(heart(made), (n(5), None, n(1), None, None, n(4)))

    def test_from_the_end_or_from_below_0_it_begins_anew(self):
        for place in (10, 11, -1):
            made = lead(playing(), ("seek", "p", n(place)), ("play", "p"))
            self.assertEqual(heart(made), (None, n(0), n(1), None, "play", n(0)))

    def test_backwards_from_the_end(self):
        for place in (0, -2, 11):
            made = lead(playing(), ("rate", "p", n(-1)), ("seek", "p", n(place)), ("play", "p"))
            self.assertEqual(heart(made), (None, n(10), n(-1), None, "play", n(10)))
        made = lead(stage(effect(), ("clock", "c"), player()), ("rate", "p", n(-1)), ("play", "p"))
        self.assertEqual(heart(made), (None, n(10), n(-1), None, "play", n(10)))

    def test_backwards_at_the_end_it_stays(self):
        made = lead(playing(), ("rate", "p", n(-1)), ("seek", "p", n(10)), ("play", "p"))
        self.assertEqual(heart(made)[4], None)
        self.assertEqual(made.time("p"), n(10))

    def test_at_rate_0(self):
        made = lead(stage(effect(), ("clock", "c"), player()), ("rate", "p", n(0)), ("play", "p"), frame(4))
        self.assertEqual(heart(made), (n(4), n(0), n(0), None, None, n(0)))
        lead(made, ("seek", "p", n(30)), ("play", "p"))
        self.assertEqual(heart(made)[:2], (None, n(30)))

    def test_a_running_player_stays_as_it_is(self):
        made = lead(playing(), frame(4))
        before = made.copy()
        self.assertTrue(lead(made, ("play", "p")) == before)

    def test_a_pending_play_that_is_played_stays_open(self):
        made = lead(stage(effect(), ("clock", "c"), player()), ("play", "p"), ("play", "p"))
        self.assertEqual([made.pending("p"), made.marks("p")[0]], ["play", "open"])

    def test_a_pending_play_may_be_lost_with_its_ready_note_open(self):
        made = lead(playing(), frame(4), ("smooth", "p", n(2)), ("rate", "p", n(1)), ("play", "p"))
        self.assertEqual([made.pending("p"), made.marks("p")[0], made.notes()], [None, "open", [READY]])

    def test_a_pending_pause(self):
        made = lead(playing(), frame(4), ("pause", "p"), ("play", "p"))
        self.assertEqual(heart(made), (n(0), None, n(1), None, "play", n(4)))
        lead(made, frame(6))
        self.assertEqual(heart(made), (n(0), None, n(1), None, None, n(6)))
        self.assertEqual(made.notes(), [READY, READY])

    def test_an_endless_effect(self):
        made = lead(playing(timing("endless")), ("seek", "p", n(100)), ("play", "p"))
        self.assertEqual([made.time("p"), made.pending("p")], [n(100), None])
        lead(made, ("rate", "p", n(-1)), ("play", "p"))
        self.assertEqual([made.time("p"), made.pending("p")], [n(100), None])
        self.assertEqual(refusal(lead(made, ("seek", "p", n(0))), ("play", "p")), "state")


class PauseTest(unittest.TestCase):
    def test_a_running_player(self):
        made = lead(playing(), frame(4), ("pause", "p"))
        self.assertEqual(heart(made), (n(0), None, n(1), None, "pause", n(4)))
        self.assertEqual([made.state("p"), made.marks("p")[0]], ["paused", "open"])
        lead(made, frame(5))
        self.assertEqual(heart(made), (None, n(5), n(1), None, None, n(5)))
        self.assertEqual([made.state("p"), made.notes()], ["paused", [READY, READY]])

    def test_an_idle_player(self):
        for rate, wanted in ((1, 0), (0, 0), (-2, 10)):
            made = lead(stage(effect(), ("clock", "c"), player()), ("rate", "p", n(rate)), ("pause", "p"))
            self.assertEqual(heart(made), (None, n(wanted), n(rate), None, "pause", n(wanted)))

    def test_a_paused_player(self):
        made = lead(playing(), ("pause", "p"))
        before = made.copy()
        self.assertTrue(lead(made, ("pause", "p")) == before)
        before = lead(made, frame(3)).copy()
        self.assertTrue(lead(made, ("pause", "p")) == before)

    def test_a_finished_player(self):
        made = lead(playing(), frame(12), ("pause", "p"))
        self.assertEqual([heart(made), made.state("p")], [(n(0), n(10), n(1), None, "pause", n(10)), "paused"])
        lead(made, frame(13))
        self.assertEqual(heart(made), (None, n(10), n(1), None, None, n(10)))

    def test_a_pending_play(self):
        made = lead(stage(effect(), ("clock", "c"), player()), ("play", "p"), ("pause", "p"), frame(3))
        self.assertEqual(heart(made), (None, n(0), n(1), None, None, n(0)))
        self.assertEqual(made.notes(), [READY])

    def test_the_rate_counts_and_not_the_pending_one(self):
        made = lead(playing(), frame(4), frame(None), ("smooth", "p", n(-1)), ("pause", "p"))
        self.assertEqual(heart(made), (n(0), n(0), n(1), n(-1), "pause", n(0)))


class ReverseTest(unittest.TestCase):
    def test_a_running_player(self):
        made = lead(playing(), frame(4), ("reverse", "p"))
        self.assertEqual(heart(made), (n(0), None, n(1), n(-1), "play", n(4)))
        lead(made, frame(5))
        self.assertEqual(heart(made), (n(10), None, n(-1), None, None, n(5)))

    def test_twice(self):
        made = lead(playing(), frame(4), ("reverse", "p"), ("reverse", "p"), frame(5))
        self.assertEqual(heart(made), (n(0), None, n(1), None, None, n(5)))

    def test_at_the_beginning(self):
        made = lead(playing(), ("reverse", "p"))
        self.assertEqual(heart(made), (None, n(10), n(1), n(-1), "play", n(10)))

    def test_an_idle_player(self):
        made = lead(stage(effect(), ("clock", "c"), player(), frame(3)), ("reverse", "p"), frame(4))
        self.assertEqual(heart(made), (n(14), None, n(-1), None, None, n(10)))

    def test_at_rate_0(self):
        made = lead(playing(), frame(4), ("rate", "p", n(0)), ("reverse", "p"))
        self.assertEqual(heart(made), (None, n(4), n(0), n(0), "play", n(4)))


class FinishTest(unittest.TestCase):
    def test_a_running_player(self):
        made = lead(playing(), frame(4), ("finish", "p"))
        self.assertEqual(heart(made), (n(-6), n(10), n(1), None, None, n(10)))
        self.assertEqual([made.state("p"), made.marks("p")], ["finished", ("settled", "settled", "active")])
        self.assertEqual([made.notes(), made.waiting()], [[READY, DONE], [("finish", "p", n(10), n(4))]])

    def test_backwards(self):
        made = lead(playing(), frame(4), ("rate", "p", n(-2)), ("finish", "p"))
        self.assertEqual(heart(made), (n(4), n(0), n(-2), None, None, n(0)))

    def test_an_idle_player(self):
        made = lead(stage(effect(), ("clock", "c"), player(), frame(3)), ("finish", "p"))
        self.assertEqual(heart(made), (n(-7), n(10), n(1), None, None, n(10)))

    def test_the_pending_rate_counts(self):
        made = lead(playing(), frame(4), ("smooth", "p", n(-1)), ("finish", "p"))
        self.assertEqual(heart(made), (n(4), n(0), n(-1), None, None, n(0)))
        self.assertEqual(made.notes(), [READY, READY, DONE])

    def test_a_pending_pause(self):
        made = lead(playing(), frame(4), ("pause", "p"), ("finish", "p"))
        self.assertEqual([heart(made), made.state("p")], [(n(-6), n(10), n(1), None, None, n(10)), "finished"])

    def test_without_a_time_of_the_timeline(self):
        made = lead(stage(effect(), ("clock", "c"), player()), ("play", "p"), ("finish", "p"))
        self.assertEqual(heart(made), (None, n(10), n(1), None, "play", n(10)))
        self.assertEqual([made.state("p"), made.notes()], ["finished", [DONE]])

    def test_a_queued_finish_is_none_any_more(self):
        made = lead(playing(), ("seek", "p", n(10)), ("finish", "p"), ("settle",))
        self.assertEqual([made.notes(), len(made.waiting())], [[READY, DONE], 1])


class CancelTest(unittest.TestCase):
    def test_a_running_player(self):
        made = lead(playing(), frame(4), ("cancel", "p"))
        self.assertEqual(heart(made), (None, None, n(1), None, None, n(4)))
        self.assertEqual([made.state("p"), made.notes()], ["idle", [READY, ("finished refused", "p")]])
        self.assertEqual(made.waiting(), [("cancel", "p", None, n(4))])

    def test_a_pending_one(self):
        made = lead(playing(), frame(4), ("smooth", "p", n(2)), ("cancel", "p"))
        self.assertEqual(heart(made), (None, None, n(2), None, None, n(4)))
        self.assertEqual(made.notes(), [READY, ("ready refused", "p"), ("finished refused", "p")])
        self.assertEqual(made.marks("p"), ("settled", "open", "active"))

    def test_a_finished_one(self):
        made = lead(playing(), frame(12), ("cancel", "p"))
        self.assertEqual([made.notes(), made.marks("p")], [[READY, DONE], ("settled", "open", "active")])

    def test_a_queued_finish(self):
        made = lead(playing(), ("seek", "p", n(12)), ("cancel", "p"))
        self.assertEqual(made.full("p")[8], 0)

    def test_an_idle_one(self):
        made = lead(playing(), ("cancel", "p"))
        before = made.copy()
        self.assertTrue(lead(made, ("cancel", "p")) == before)
        self.assertEqual(len(made.notes()), 2)

    def test_without_a_time_of_the_timeline(self):
        made = lead(stage(effect(), player(line=None)), ("seek", "p", n(1)), ("cancel", "p"))
        self.assertEqual(made.waiting(), [("cancel", "p", None, None)])


class RatesTest(unittest.TestCase):
    """[19]"""

    def test_the_time_stays(self):
        made = lead(playing(), frame(4), ("rate", "p", n(2)))
        self.assertEqual(heart(made), (n(2), None, n(2), None, None, n(4)))

    def test_an_idle_player(self):
        made = lead(stage(effect(), ("clock", "c"), player()), ("rate", "p", n(-3)))
        self.assertEqual(heart(made), (None, None, n(-3), None, None, None))

    def test_the_pending_rate_is_gone(self):
        made = lead(playing(), frame(4), ("smooth", "p", n(2)), ("rate", "p", n(3)))
        self.assertEqual(heart(made)[2:5], (n(3), None, "play"))

    def test_a_held_end_may_be_left(self):
        made = lead(playing(), frame(12), ("rate", "p", n(-1)))
        self.assertEqual(heart(made), (n(22), None, n(-1), None, None, n(10)))

    def test_smooth_while_running(self):
        made = lead(playing(), frame(4), ("smooth", "p", n(3)))
        self.assertEqual(heart(made), (n(0), None, n(1), n(3), "play", n(4)))
        lead(made, frame(6))
        self.assertEqual(heart(made), (n(4), None, n(3), None, None, n(6)))

    def test_smooth_to_0(self):
        made = lead(playing(), frame(4), ("smooth", "p", n(0)), frame(6))
        self.assertEqual(heart(made), (n(6), n(6), n(0), None, None, n(6)))
        lead(made, ("smooth", "p", n(1)), frame(9))
        self.assertEqual(heart(made), (n(3), None, n(1), None, None, n(6)))

    def test_smooth_while_idle_or_paused(self):
        made = lead(stage(effect(), ("clock", "c"), player()), ("smooth", "p", n(2)))
        self.assertEqual(heart(made), (None, None, n(2), None, None, None))
        made = lead(playing(), ("pause", "p"), frame(4), ("smooth", "p", n(2)))
        self.assertEqual(heart(made), (None, n(4), n(2), None, None, n(4)))

    def test_smooth_while_finished(self):
        made = lead(playing(), frame(12), ("smooth", "p", n(2)))
        self.assertEqual(heart(made), (n(6), n(10), n(2), None, None, n(10)))
        made = lead(playing(), frame(12), ("smooth", "p", n(-2)))
        self.assertEqual(heart(made), (n(18), None, n(-2), None, None, n(12)))
        made = lead(playing(), frame(12), ("smooth", "p", n(0)))
        self.assertEqual(heart(made), (n(12), n(10), n(0), None, None, n(10)))

    def test_smooth_while_finished_without_a_time_of_the_timeline(self):
        made = lead(playing(), frame(12), frame(None), ("smooth", "p", n(2)))
        self.assertEqual(heart(made), (n(0), n(10), n(2), None, None, n(10)))

    def test_smooth_with_a_pending_task(self):
        made = lead(playing(), frame(4), ("pause", "p"), ("smooth", "p", n(2)))
        self.assertEqual(heart(made), (n(0), None, n(1), n(2), "pause", n(4)))
        lead(made, frame(5))
        self.assertEqual(heart(made), (None, n(5), n(2), None, None, n(5)))


class OtherRowsTest(unittest.TestCase):
    def test_keep(self):
        made = lead(playing(), ("keep", "p"))
        self.assertEqual(made.marks("p")[2], "kept")
        self.assertEqual(lead(made, ("keep", "p")).marks("p")[2], "kept")

    def test_follow(self):
        made = lead(playing(), ("clock", "d"), frame(5), ("follow", "p", "d"))
        self.assertEqual([made.full("p")[10], heart(made)[:2], made.time("p")], ["d", (n(0), None), None])
        lead(made, frame(3, "d"))
        self.assertEqual(made.time("p"), n(3))
        lead(made, ("follow", "p", None))
        self.assertEqual([made.full("p")[10], made.time("p"), made.state("p")], [None, None, "running"])

    def test_follow_lets_a_hold_go_if_there_is_a_start(self):
        made = lead(playing(), ("clock", "d"), frame(12), ("follow", "p", "d"))
        self.assertEqual([heart(made)[:2], made.state("p")], [(n(0), None), "running"])
        made = lead(playing(), ("clock", "d"), ("pause", "p"), frame(4), ("follow", "p", "d"))
        self.assertEqual(heart(made)[:2], (None, n(4)))

    def test_follow_the_same_timeline(self):
        made = lead(playing(), frame(12))
        before = made.copy()
        self.assertTrue(lead(made, ("follow", "p", "c")) == before)

    def test_use(self):
        made = lead(playing(), effect("f", timing(4)), frame(5), ("use", "p", "f"))
        self.assertEqual([made.full("p")[11], made.state("p"), made.hold("p")], ["f", "finished", n(5)])
        self.assertEqual(made.told("e")[0], "idle")
        lead(made, ("use", "p", "e"))
        self.assertEqual([made.state("p"), made.hold("p"), made.told("f")[0]], ["running", None, "idle"])
        lead(made, ("use", "p", None))
        self.assertEqual([made.full("p")[11], made.state("p")], [None, "finished"])

    def test_use_the_same_effect(self):
        made = lead(playing(), frame(5))
        before = made.copy()
        self.assertTrue(lead(made, ("use", "p", "e")) == before)


class ScrolledTest(unittest.TestCase):
    def test_a_player_goes_to_and_fro(self):
        made = stage(effect(), ("scrolled", "c"), player(), ("play", "p"), frame(5))
        for place, wanted in ((8, 3), (6, 1), (20, 10), (12, 7), (2, -3)):
            self.assertEqual(lead(made, frame(place)).time("p"), n(wanted))
        self.assertEqual(made.state("p"), "running")


SETUPS = {
    "idle": [],
    "seen": [("play", "p"), frame(2), ("cancel", "p"), frame(3)],
    "play pending": [("play", "p")],
    "running": [("play", "p"), frame(2), frame(5)],
    "below 0": [("play", "p"), frame(2), ("seek", "p", n(-3)), frame(3)],
    "paused": [("play", "p"), frame(2), ("pause", "p"), frame(5)],
    "pause pending": [("play", "p"), frame(2), frame(5), ("pause", "p")],
    "held pause pending": [("pause", "p")],
    "finished": [("play", "p"), frame(2), frame(40)],
    "sought": [("play", "p"), frame(2), ("seek", "p", n(30)), frame(5)],
    "queued": [("play", "p"), frame(2), ("seek", "p", n(30))],
    "rate pending": [("play", "p"), frame(2), frame(5), ("smooth", "p", n(-2))],
    "rate pending, paused": [("play", "p"), frame(2), frame(5), ("pause", "p"), ("smooth", "p", n(3))],
    "rate pending, held": [("play", "p"), ("smooth", "p", n(-1))],
    "rate 0": [("play", "p"), frame(2), frame(5), ("rate", "p", n(0))],
    "rate 0, idle": [("rate", "p", n(0))],
    "backwards": [("rate", "p", n(-1)), ("seek", "p", n(8)), ("start", "p", n(10)), frame(5)],
    "backwards, idle": [("rate", "p", n(-1))],
    "backwards, finished": [("play", "p"), frame(2), frame(5), ("rate", "p", n(-2)), frame(40)],
    "without a time": [("play", "p"), frame(2), frame(5), frame(None)],
    "held without a time": [("play", "p"), frame(2), frame(40), frame(None)],
    "started": [("start", "p", n(1))],
    "open": [("play", "p"), frame(2), frame(4), ("smooth", "p", n(2)), ("rate", "p", n(1)), ("play", "p")],
    "removed": [("play", "p"), frame(2), ("player", "q", "over", "c", "plain"), ("finish", "p"), ("finish", "q"),
                frame(3)],
}
ROWS = [("play", "p"), ("pause", "p"), ("reverse", "p"), ("finish", "p"), ("cancel", "p"), ("keep", "p"),
        ("commit", "p"), ("settle",), ("follow", "p", None), ("follow", "p", "c"), ("follow", "p", "other"),
        ("use", "p", None), ("use", "p", "e"), ("use", "p", "free"), ("seek", "p", None), ("start", "p", None)]
ROWS += [(word, "p", n(k)) for word in ("seek", "start") for k in (-3, 0, 4, 10, 50)]
ROWS += [(word, "p", n(k)) for word in ("rate", "smooth") for k in (-1, 0, 1, 2)]
ROWS += [("retime", "e", timing(4, fill="both")), ("retime", "e", timing("endless")), frame(41), frame(None)]
STAGES = {
    "plain": [effect(time=timing(fill="both")), ("clock", "c"), player()],
    "endless": [effect(time=timing(times="endless")), ("clock", "c"), player(kind="styled")],
    "none": [effect(), ("clock", "c"), player(lead=None)],
    "scrolled": [effect(time=timing(6, delay=2, behind=-1)), ("scrolled", "c"), player(kind="styled")],
    "no line": [effect(), ("clock", "c"), player(line=None)],
}


class AllTest(unittest.TestCase):
    """Each row in each state, beside the model: the refusal, the full state, and what all questions tell."""

    def check(self, name):
        for setup, row in itertools.product(SETUPS, ROWS):
            made, model = stage(), Model()
            rows = [("clock", "other"), frame(7, "other"), effect("free", timing(3)), effect("over", timing(5, fill="both"))]
            for ahead in rows + STAGES[name] + SETUPS[setup]:
                self.assertEqual(tell(made, ahead), tell(model, ahead), (setup, ahead))
            for told_row in (row, frame(42), frame(60)):
                self.assertEqual(tell(made, told_row), tell(model, told_row), (setup, row, told_row))
                for question, answer, right in answers(made, model):
                    self.assertEqual(answer, right, (setup, row, told_row, question))

    def test_an_effect_on_a_clock(self):
        self.check("plain")

    def test_an_endless_effect(self):
        self.check("endless")

    def test_no_effect(self):
        self.check("none")

    def test_a_scrolled_timeline(self):
        self.check("scrolled")

    def test_no_timeline(self):
        self.check("no line")
