"""[32]: when a player's state, or the phase or iteration of its effect, will change."""

import unittest
from fractions import Fraction

from making import effect, frame, lead, n, player, playing, refusal, stage, timing

HALF = Fraction(1, 2)


class NextChangeTest(unittest.TestCase):
    def check(self, made, time, word="at"):
        self.assertEqual(made.next_change("p"), None if time is None else (n(time), word))

    def check_kind(self, made, kind="state"):
        with self.assertRaises(ValueError) as caught:
            made.next_change("p")
        self.assertEqual(caught.exception.kind, kind)


class ForwardsTest(NextChangeTest):
    def test_the_end(self):
        self.check(playing(at=5), 15)
        self.check(lead(playing(at=5), frame(9)), 15)

    def test_at_another_rate(self):
        self.check(lead(playing(), frame(4), ("rate", "p", n(2))), 7)
        self.check(lead(playing(), frame(4), ("rate", "p", n(Fraction(1, 3)))), 22)

    def test_the_first_edge(self):
        self.check(playing(timing(delay=3)), 3)
        self.check(lead(playing(timing(delay=3)), frame(3)), 13)

    def test_the_second_edge_and_then_the_end(self):
        made = playing(timing(behind=4))
        self.check(made, 10)
        self.check(lead(made, frame(11)), 14)

    def test_iterations(self):
        made = playing(timing(times=3))
        for time in (0, 9):
            self.check(lead(made, frame(time)), 10)
        self.check(lead(made, frame(10)), 20)
        self.check(lead(made, frame(25)), 30)

    def test_iterations_from_a_first_share_on(self):
        self.check(playing(timing(first=HALF, times=2)), 5)
        self.check(playing(timing(first=HALF, delay=1)), 1)

    def test_the_last_iteration_is_not_left_at_the_end(self):
        self.check(lead(playing(timing(times=2, fill="both")), frame(15)), 20)

    def test_an_endless_effect(self):
        self.check(playing(timing("endless")), None)
        self.check(playing(timing("endless", delay=5)), 5)
        self.check(lead(playing(timing(times="endless")), frame(1004)), 1010)

    def test_a_part_of_the_iterations_ahead_of_the_first_edge(self):
        made = lead(playing(timing(2, delay=-7, times=9, fill="both")), ("seek", "p", n(-6)))
        self.check(made, 1)
        self.check(lead(made, frame(1)), 3)

    def test_no_length(self):
        self.check(lead(playing(timing(0, delay=3)), frame(1)), 3)
        self.check(lead(playing(timing(0, delay=3, behind=4)), frame(4)), 7)

    def test_below_0(self):
        self.check(lead(playing(), ("seek", "p", n(-2))), 2)


class BackwardsTest(NextChangeTest):
    def back(self, time, place, rate=-1):
        return lead(playing(time), ("rate", "p", n(rate)), ("seek", "p", n(place)))

    def test_the_beginning(self):
        self.check(self.back(timing(), 7), 7)
        self.check(self.back(timing(), 7, -2), Fraction(7, 2))

    def test_the_edges(self):
        time = timing(delay=3, behind=4)
        self.check(self.back(time, 16), 3)
        self.check(self.back(time, 13), 10)
        self.check(self.back(time, 5), 2)
        self.check(self.back(time, 2), 2)

    def test_behind_the_end(self):
        self.check(self.back(timing(), 14), 4)
        self.check(self.back(timing(), 10), 10)

    def test_an_iteration_is_left_behind_its_edge(self):
        time = timing(times=3)
        self.check(self.back(time, 25), 5, "behind")
        self.check(self.back(time, 11), 1, "behind")
        self.check(self.back(time, 9), 9)

    def test_at_its_edge_it_is_left_at_once(self):
        made = self.back(timing(times=3), 20)
        self.check(made, 0, "behind")
        self.check(lead(made, frame(Fraction(1, 9))), 10, "behind")

    def test_at_the_second_edge(self):
        self.check(self.back(timing(times=3, fill="both"), 30), 10, "behind")
        self.check(self.back(timing(times=3, fill="both"), 31), 1)

    def test_iterations_behind_an_end_that_cuts(self):
        made = self.back(timing(2, times=5, behind=-6, fill="both"), 20)
        self.check(made, 12, "behind")
        self.check(lead(made, frame(13)), 14, "behind")
        self.check(lead(made, frame(15)), 16)

    def test_the_delay_below_0(self):
        self.check(self.back(timing(2, delay=-3, times=5), 6), 1, "behind")
        self.check(self.back(timing(2, delay=-3, times=5), HALF), HALF)

    def test_an_endless_effect(self):
        self.check(self.back(timing(times="endless"), 1005), 5, "behind")
        self.check(self.back(timing("endless"), 1005), 1005)


class NeverTest(NextChangeTest):
    def test_idle(self):
        self.check(stage(effect(), ("clock", "c"), player(), frame(0)), None)

    def test_paused(self):
        self.check(lead(playing(), frame(4), ("pause", "p"), frame(5)), None)

    def test_finished(self):
        self.check(lead(playing(), frame(12)), None)
        self.check(lead(playing(), ("seek", "p", n(30))), None)

    def test_finished_but_let_go_by_the_next_frame(self):
        made = lead(playing(), frame(4), ("rate", "p", n(0)), ("seek", "p", n(12)), ("rate", "p", n(1)))
        self.assertEqual([made.state("p"), made.start("p"), made.hold("p")], ["finished", n(0), n(12)])
        self.check(made, None)
        self.assertEqual(lead(made, frame(5)).state("p"), "running")

    def test_at_rate_0(self):
        self.check(lead(playing(), frame(4), ("rate", "p", n(0))), None)

    def test_without_an_effect(self):
        self.check(stage(("clock", "c"), player(lead=None), ("play", "p"), frame(0)), None)

    def test_without_an_effect_but_not_finished(self):
        made = stage(("clock", "c"), player(lead=None), frame(2), ("start", "p", n(5)))
        self.check(made, 5)
        made = stage(("clock", "c"), player(lead=None), frame(2), ("rate", "p", n(-2)), ("start", "p", n(5)))
        self.check(made, 5)


class RefusedTest(NextChangeTest):
    def test_a_pending_task(self):
        self.check_kind(lead(playing(), frame(4), ("pause", "p")))
        self.check_kind(lead(playing(), frame(4), ("smooth", "p", n(2))))
        self.check_kind(lead(stage(effect(), ("clock", "c"), player(), frame(3)), ("play", "p")))

    def test_no_clock(self):
        self.check_kind(stage(effect(), ("scrolled", "c"), player(), frame(3)))
        self.check_kind(stage(effect(), player(line=None)))

    def test_no_time_of_the_clock(self):
        self.check_kind(stage(effect(), ("clock", "c"), player()))
        self.check_kind(lead(playing(), frame(None)))


class GroupsTest(NextChangeTest):
    def test_the_iteration_of_the_group_counts(self):
        made = stage(
            effect("a", timing(1, times=4)), effect("b", timing(6)), ("sequence", "g", timing(None, times=2), ("a", "b")),
            ("clock", "c"), player(lead="g"), ("play", "p"), frame(0),
        )
        self.check(made, 10)
        self.check(lead(made, frame(12)), 20)


class WalkTest(NextChangeTest):
    """What is told holds: just ahead of the time all is as now, at it or behind it it is not."""

    def key(self, made):
        return (made.state("p"),) + (made.told("e")[0], made.told("e")[4])

    def test_along_many_effects(self):
        times = [timing(2, delay=delay, behind=behind, times=times, first=first, fill=fill)
                 for delay in (-3, 0, 1) for behind in (-2, 0, 3) for times in (1, Fraction(5, 2), "endless")
                 for first in (0, HALF) for fill in ("none", "both")]
        for time in times:
            for rate, place in ((1, -4), (1, 1), (Fraction(2, 3), 3), (-1, 9), (-2, 4), (-1, 2)):
                made = lead(playing(time), ("rate", "p", n(rate)), ("seek", "p", n(place)))
                self.walk(made)

    def walk(self, made):
        for _ in range(4):
            found = made.next_change("p")
            if found is None:
                self.assertEqual(self.key(lead(made.copy(), frame(1000))), self.key(made))
                return
            time, now, here = Fraction(*found[0]), self.key(made), Fraction(*made.now("c"))
            little = Fraction(1, 1000)
            if time > here:
                self.assertEqual(self.key(lead(made.copy(), frame((time + here) / 2))), now)
                self.assertEqual(self.key(lead(made.copy(), frame(max(here, time - little)))), now)
            if found[1] == "behind":
                if time > here:
                    self.assertEqual(self.key(lead(made.copy(), frame(time))), now)
                time += little
            else:
                self.assertGreater(time, here)
            self.assertNotEqual(self.key(lead(made, frame(time))), now)

    def test_transitions_have_one_too(self):
        way = ("transit", "box", "x", "c", n(10), n(3), timing()[7])
        made = stage(("clock", "c"), frame(0), way, ("style", (("box", "x", n(8)),)))
        self.assertEqual(made.next_change(("way", "box", "x", 0)), (n(3), "at"))
        self.assertEqual(refusal(made, ("pause", ("way", "box", "x", 0))), None)
