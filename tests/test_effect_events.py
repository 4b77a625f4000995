"""[25]: the events of effects."""

import unittest
from fractions import Fraction

from making import effect, events, frame, keys, lead, n, player, playing, stage, timing

TIME = timing(10, delay=5, behind=3, times=2)


def styled(time=TIME, at=0):
    return playing(time, kind="styled", at=at)


def told(made):
    """The events of effects: pairs of the word behind "effect" and the numbers of time and due time."""
    found = []
    for _, event in made.log():
        if event[0].startswith("effect "):
            found.append((event[0][7:],) + tuple(
                value if value is None or value == "endless" else Fraction(*value) for value in event[2:]
            ))
    return found


class PhasesTest(unittest.TestCase):
    def check(self, made, *wanted):
        self.assertEqual(told(made), list(wanted))

    def test_before_to_active(self):
        self.check(styled())
        self.check(lead(styled(), frame(4)))
        self.check(lead(styled(), frame(6)), ("start", 0, 5))

    def test_idle_to_active(self):
        self.check(styled(timing()), ("start", 0, 0))

    def test_before_to_after(self):
        self.check(lead(styled(), frame(26)), ("start", 0, 5), ("end", 20, 25))

    def test_idle_to_after(self):
        made = stage(effect(time=timing()), ("clock", "c"), player(kind="styled"), frame(0), ("start", "p", n(-30)), frame(1))
        self.check(made, ("start", 0, -30), ("end", 10, -20))

    def test_active_to_after(self):
        self.check(lead(styled(), frame(6), frame(25)), ("start", 0, 5), ("end", 20, 25))

    def test_active_to_before(self):
        made = lead(styled(), frame(6), ("rate", "p", n(-1)), frame(8))
        self.check(made, ("start", 0, 5), ("end", 0, 7))

    def test_after_to_active(self):
        made = lead(styled(), frame(26), ("seek", "p", n(24)), frame(26))
        self.check(made, ("start", 0, 5), ("end", 20, 25), ("start", 20, 27))

    def test_after_to_before(self):
        made = lead(styled(), frame(26), ("seek", "p", n(1)), frame(26))
        self.check(made, ("start", 0, 5), ("end", 20, 25), ("end", 0, 30), ("start", 20, 50))

    def test_before_to_idle(self):
        made = lead(styled(), frame(4), ("cancel", "p"), frame(6))
        self.check(made, ("cancel", 0, 6))

    def test_active_to_idle(self):
        made = lead(styled(), frame(9), ("cancel", "p"), frame(11))
        self.check(made, ("start", 0, 5), ("cancel", 4, 11))

    def test_after_to_idle(self):
        made = lead(styled(), frame(26), ("cancel", "p"), frame(27))
        self.check(made, ("start", 0, 5), ("end", 20, 25))

    def test_idle_to_before_and_back_to_idle(self):
        made = lead(styled(), frame(4), ("cancel", "p"), frame(4), ("cancel", "p"), frame(5))
        self.check(made, ("cancel", 0, 4))

    def test_the_time_of_a_cancel_is_that_with_the_fill_both(self):
        made = lead(styled(timing(10, delay=-4), 4), ("seek", "p", n(-2)), frame(4), ("cancel", "p"), frame(6))
        self.check(made, ("start", 4, 4), ("end", 4, 6), ("cancel", 2, 6))

    def test_without_a_change_nothing_is_told(self):
        made = lead(styled(timing()), frame(4), frame(6), ("pause", "p"), frame(7), frame(8))
        self.check(made, ("start", 0, 0))


class TimesTest(unittest.TestCase):
    def test_a_delay_below_0_begins_late(self):
        made = lead(styled(timing(10, delay=-4)), frame(6))
        self.assertEqual(told(made), [("start", 4, 0), ("end", 10, 6)])
        made = lead(styled(timing(10, delay=-40)), frame(6))
        self.assertEqual(told(made), [("start", 10, -30), ("end", 10, -30)])

    def test_an_end_that_cuts(self):
        made = lead(styled(timing(10, behind=-4)), frame(6))
        self.assertEqual(told(made), [("start", 0, 0), ("end", 6, 6)])

    def test_an_end_of_0(self):
        made = styled(timing(10, delay=5, behind=-40))
        self.assertEqual(told(made), [("start", 0, 5), ("end", 0, 5)])

    def test_at_another_rate(self):
        made = lead(styled(), ("rate", "p", n(2)), frame(3), frame(13))
        self.assertEqual(told(made), [("start", 0, Fraction(5, 2)), ("end", 20, Fraction(25, 2))])

    def test_no_due_time_without_a_start_or_at_rate_0(self):
        made = stage(effect(time=timing()), ("clock", "c"), player(kind="styled"), ("seek", "p", n(3)), frame(2))
        self.assertEqual(told(made), [("start", 0, None)])
        made = stage(effect(time=timing()), ("clock", "c"), player(kind="styled"), ("rate", "p", n(0)), ("play", "p"))
        self.assertEqual(told(lead(made, frame(2))), [("start", 0, None)])

    def test_an_endless_time(self):
        made = lead(styled(timing()), frame(12), ("retime", "e", timing("endless")), frame(12))
        self.assertEqual(told(made), [("start", 0, 0), ("end", 10, 10), ("start", "endless", None)])


class IterationsTest(unittest.TestCase):
    def test_forwards(self):
        made = lead(styled(timing(10, times=3)), frame(9), frame(10), frame(19), frame(29))
        self.assertEqual(told(made), [("start", 0, 0), ("iteration", 10, 10), ("iteration", 20, 20)])

    def test_several_at_once(self):
        made = lead(styled(timing(10, times="endless")), frame(57))
        self.assertEqual(told(made), [("start", 0, 0), ("iteration", 50, 50)])

    def test_backwards(self):
        made = lead(styled(timing(10, times=3)), frame(25), ("rate", "p", n(-1)), frame(27), frame(31), frame(46))
        wanted = [("start", 0, 0), ("iteration", 20, 20), ("iteration", 20, 30), ("iteration", 10, 40)]
        self.assertEqual(told(made), wanted)

    def test_with_a_delay_and_a_first_share(self):
        made = lead(styled(timing(10, delay=2, times=3, first=Fraction(1, 2))), frame(3), frame(8))
        self.assertEqual(told(made), [("start", 0, 2), ("iteration", 5, 7)])

    def test_not_with_an_endless_length(self):
        made = lead(styled(timing("endless")), frame(4), ("retime", "e", timing("endless", first=3)), frame(5))
        self.assertEqual(told(made), [("start", 0, 0)])

    def test_of_an_effect_that_was_retimed(self):
        made = lead(styled(timing(10, times=9)), frame(25), ("retime", "e", timing(5, times=9)), frame(25))
        self.assertEqual(told(made), [("start", 0, 0), ("iteration", 20, 20), ("iteration", 25, 25)])


class OthersTest(unittest.TestCase):
    def test_plain_players_have_none_but_their_phases_are_kept(self):
        made = lead(playing(TIME), frame(9), ("cancel", "p"))
        self.assertEqual([told(made), made.full("p")[12:]], [[], ("active", 0, n(4))])
        self.assertEqual(lead(made, frame(9)).full("p")[12:], ("idle", None, None))

    def test_what_is_kept(self):
        made = styled(timing(10, delay=5, times=2, fill="none"))
        self.assertEqual(made.full("p")[12:], ("before", None, n(0)))
        self.assertEqual(lead(made, frame(17)).full("p")[12:], ("active", 1, n(12)))
        self.assertEqual(lead(made, frame(30)).full("p")[12:], ("after", None, n(20)))
        self.assertEqual(lead(made, ("seek", "p", n(17))).full("p")[12:], ("after", None, n(20)))

    def test_another_effect_is_compared_with_the_old_one(self):
        made = lead(styled(timing()), effect("f", timing(4, delay=1)), frame(3), ("use", "p", "f"), frame(4))
        self.assertEqual(told(made), [("start", 0, 0)])
        lead(made, frame(6))
        self.assertEqual(told(made), [("start", 0, 0), ("end", 4, 5)])

    def test_no_effect_any_more(self):
        made = lead(styled(timing()), frame(3), ("use", "p", None), frame(4))
        self.assertEqual(told(made), [("start", 0, 0), ("cancel", 3, 4)])

    def test_no_time_of_the_timeline_any_more(self):
        made = lead(styled(timing()), frame(3), frame(None))
        self.assertEqual(told(made), [("start", 0, 0), ("cancel", 3, None)])

    def test_groups_have_the_events_and_their_children_have_none(self):
        made = stage(
            effect("a", timing(4)), effect("b", timing(6)), ("sequence", "g", timing(None, times=2), ("a", "b")),
            ("clock", "c"), player(lead="g", kind="styled"), ("play", "p"), frame(0), frame(5), frame(12), frame(20),
        )
        self.assertEqual(told(made), [("start", 0, 0), ("iteration", 10, 10), ("end", 20, 20)])
        self.assertEqual({event[1] for event in events(made)}, {"p"})

    def test_in_the_order_of_the_stack(self):
        made = stage(effect("e"), effect("f"), ("clock", "c"), player("z", "e", kind="styled"), player("a", "f", kind="styled"))
        lead(made, ("play", "a"), ("play", "z"), frame(0))
        self.assertEqual([event[1] for event in events(made)], ["z", "a"])

    def test_beside_other_events_by_due_times(self):
        made = lead(styled(), frame(30))
        self.assertEqual([event[0] for event in events(made)], ["effect start", "effect end", "finish"])
        self.assertEqual([event[3] for event in events(made)], [n(5), n(25), n(28)])

    def test_of_transitions(self):
        made = lead(playing(), ("transit", "box", "y", "c", n(4), n(2), TIME[7]), ("style", (("box", "y", n(8)),)))
        lead(made, frame(1), frame(3), frame(9))
        self.assertEqual(told(made), [("run", 0, 2), ("start", 0, 2), ("end", 4, 6)])

    def test_of_transitions_that_are_over_at_once(self):
        made = lead(playing(), ("transit", "box", "y", "c", n(4), n(-3), TIME[7]), ("style", (("box", "y", n(8)),)))
        lead(made, frame(9))
        self.assertEqual(told(made), [("run", 3, 0), ("start", 3, 0), ("end", 4, 1)])

    def test_values_are_those_of_keys(self):
        self.assertEqual(lead(playing(frames=keys(0, 5)), frame(4)).value("box", "x"), n(2))
