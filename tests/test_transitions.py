"""[26] to [29]: styles, ways and transitions."""

import unittest
from fractions import Fraction

from making import STRAIGHT, effect, events, frame, keys, lead, n, player, refusal, stage, timing

HALF = Fraction(1, 2)
WAYS = [("way", "box", "x", k) for k in range(9)]
BENT = ("linear", ((n(0), None), (n(3), None), (n(1), None)))


def way(length=10, delay=0, curve=STRAIGHT, name="x", clock="c"):
    return ("transit", "box", name, clock, n(length), n(delay), curve)


def style(value, name="x", target="box"):
    return ("style", ((target, name, n(value)),))


def begun(*rows, **parts):
    """A stage whose transition from 0 to 100 begins at 0, with these rows behind."""
    return stage(("clock", "c"), frame(0), way(**parts), style(100), *rows)


def told(made):
    """The running transition's name, the completed value, the value and the style of box.x."""
    return made.transition("box", "x") + (made.value("box", "x"), made.style("box", "x"))


class StylesTest(unittest.TestCase):
    def test_at_first_0(self):
        made = stage()
        self.assertEqual([made.style("box", "x"), made.value("box", "x")], [n(0), n(0)])
        self.assertEqual(made.transition("box", "x"), (None, None))

    def test_values_are_set(self):
        made = stage(("style", (("box", "x", n(3)), ("box", "y", n(4)), ("dot", "x", n(5)))), style(HALF, "z"), ("style", ()))
        found = [made.style(*key) for key in (("box", "x"), ("box", "y"), ("dot", "x"), ("box", "z"), ("dot", "y"))]
        self.assertEqual(found, [n(3), n(4), n(5), n(HALF), n(0)])

    def test_without_a_way_nothing_begins(self):
        made = stage(("clock", "c"), frame(0), style(100))
        self.assertEqual([made.players(), told(made)], [[], (None, None, n(100), n(100))])

    def test_transitions_do_not_change_the_style(self):
        made = begun(frame(4))
        self.assertEqual(told(made), (WAYS[0], None, n(40), n(100)))

    def test_ways_belong_to_a_property_of_a_target(self):
        made = stage(("clock", "c"), frame(0), way())
        lead(made, ("style", (("box", "y", n(1)), ("dot", "x", n(1)), ("box", "x", n(1)))))
        self.assertEqual(made.players(), [WAYS[0]])

    def test_a_new_way_and_still_change_nothing_that_runs(self):
        made = begun(frame(4))
        before = made.full(WAYS[0])
        lead(made, way(2, 1, BENT), ("still", "box", "x"), ("still", "box", "x"), ("still", "dot", "y"))
        self.assertEqual([made.full(WAYS[0]), told(made)], [before, (WAYS[0], None, n(40), n(100))])

    def test_changes_are_led_in_their_order(self):
        made = stage(("clock", "c"), frame(0), way(), way(name="y"))
        lead(made, ("style", (("box", "y", n(1)), ("box", "x", n(1)))))
        self.assertEqual(made.players(), [("way", "box", "y", 0), ("way", "box", "x", 1)])


class BeginTest(unittest.TestCase):
    def test_the_player_of_a_transition(self):
        made = begun()
        wanted = (n(0), None, n(1), None, None, n(0), "settled", "open", 0, "active", "c", None, "idle", None, None)
        self.assertEqual(made.full(WAYS[0]), wanted)
        self.assertEqual([made.players(), made.notes(), made.stack("box", "x")], [[WAYS[0]], [], [WAYS[0]]])
        self.assertEqual(told(made), (WAYS[0], None, n(0), n(100)))

    def test_its_values(self):
        made = begun(curve=BENT)
        for time, wanted in ((0, 0), (2, 120), (5, 300), (Fraction(15, 2), 200)):
            self.assertEqual(lead(made, frame(time)).value("box", "x"), n(wanted))

    def test_its_delay(self):
        made = lead(begun(delay=3), frame(2))
        self.assertEqual(told(made), (WAYS[0], None, n(0), n(100)))
        self.assertEqual(lead(made, frame(5)).value("box", "x"), n(20))
        self.assertEqual(begun(delay=-3).value("box", "x"), n(30))

    def test_the_numbers_count_all_transitions(self):
        made = begun(way(name="y"), style(1, "y"), ("transit", "dot", "x", "c", n(1), n(0), STRAIGHT), style(1, target="dot"))
        self.assertEqual(made.players(), [WAYS[0], ("way", "box", "y", 1), ("way", "dot", "x", 2)])

    def test_nothing_begins_without_a_change(self):
        made = stage(("clock", "c"), frame(0), way(), style(0))
        self.assertEqual([made.players(), told(made)], [[], (None, None, n(0), n(0))])

    def test_a_way_counts_if_its_clock_has_a_time(self):
        made = stage(("clock", "c"), way(), style(1))
        self.assertEqual(made.players(), [])
        lead(made, frame(1), frame(None), style(2))
        self.assertEqual(made.players(), [])
        self.assertEqual(lead(made, frame(3), style(3)).players(), [WAYS[0]])

    def test_a_way_counts_if_length_and_delay_are_above_0(self):
        for length, delay, wanted in ((0, 0, 0), (4, -4, 0), (4, -5, 0), (0, 1, 1), (4, -3, 1), (0, -1, 0)):
            made = begun(length=length, delay=delay)
            self.assertEqual(len(made.players()), wanted, (length, delay))

    def test_other_effects_do_not_count_for_the_value_ahead(self):
        rows = [effect(frames=keys(50, 50)), ("clock", "c"), player(), ("play", "p"), frame(0), way(), style(100), frame(4)]
        made = stage(*rows, ("cancel", "p"))
        self.assertEqual(made.value("box", "x"), n(40))

    def test_its_effect_has_no_name(self):
        made = begun()
        self.assertIsNone(made.full(WAYS[0])[11])
        with self.assertRaises(ValueError):
            made.told(WAYS[0])

    def test_the_order_of_things(self):
        made = begun(player("p", None, "c"))
        self.assertEqual(made.players(), [WAYS[0], "p"])


class EndTest(unittest.TestCase):
    """[29]"""

    def test_a_finished_one_is_completed(self):
        made = lead(begun(), frame(10))
        self.assertEqual(told(made), (None, n(100), n(100), n(100)))
        self.assertEqual([made.players(), made.state(WAYS[0])], [[WAYS[0]], "finished"])
        self.assertEqual(made.notes(), [("finished", WAYS[0])])

    def test_it_runs_until_the_frame_is_over(self):
        made = lead(begun(), ("finish", WAYS[0]))
        self.assertEqual(told(made), (WAYS[0], None, n(100), n(100)))
        self.assertEqual(told(lead(made, ("frame", ()))), (None, n(100), n(100), n(100)))

    def test_turned_about_by_a_row_it_is_forgotten(self):
        made = lead(begun(), frame(4), ("rate", WAYS[0], n(-1)), frame(9))
        self.assertEqual([told(made), made.state(WAYS[0])], [(None, None, n(0), n(100)), "finished"])

    def test_turned_about_beyond_its_end_it_is_completed_only_past_it(self):
        made = lead(begun(), ("rate", WAYS[0], n(-1)), ("seek", WAYS[0], n(-1)), frame(1))
        self.assertEqual(told(made)[:2], (None, None))

    def test_an_idle_one_is_forgotten(self):
        made = lead(begun(), frame(4), ("cancel", WAYS[0]))
        self.assertEqual(told(made), (WAYS[0], None, n(100), n(100)))
        self.assertEqual(told(lead(made, ("frame", ()))), (None, None, n(100), n(100)))

    def test_paused_ones_go_on_running(self):
        made = lead(begun(), frame(4), ("pause", WAYS[0]), frame(5), frame(50))
        self.assertEqual(told(made), (WAYS[0], None, n(50), n(100)))

    def test_a_completed_player_can_be_led_on(self):
        made = lead(begun(), frame(10), ("seek", WAYS[0], n(4)))
        self.assertEqual(told(made), (None, n(100), n(40), n(100)))
        lead(made, frame(30))
        self.assertEqual(told(made), (None, n(100), n(100), n(100)))


class CompletedTest(unittest.TestCase):
    """[27] without a running transition."""

    def test_the_completed_value_again_does_nothing(self):
        made = lead(begun(), frame(10), style(100))
        self.assertEqual([told(made), len(made.players())], [(None, n(100), n(100), n(100)), 1])

    def test_also_if_the_style_was_another_one(self):
        made = stage(effect(frames=keys(7, 7)), ("clock", "c"), player(), ("play", "p"), frame(0), way(4), style(100))
        lead(made, frame(5), ("commit", "p"))
        self.assertEqual(told(made)[1:], (n(100), n(7), n(7)))
        lead(made, style(100))
        self.assertEqual([told(made), len(made.players())], [(None, n(100), n(7), n(100)), 2])

    def test_another_value_forgets_it(self):
        made = lead(begun(), frame(10), style(50))
        self.assertEqual(told(made), (WAYS[1], None, n(100), n(50)))

    def test_also_if_the_way_does_not_count(self):
        made = lead(begun(), frame(10), way(0), style(50))
        self.assertEqual([told(made), len(made.players())], [(None, None, n(50), n(50)), 1])

    def test_without_a_way_it_is_forgotten(self):
        for value in (50, 100):
            made = lead(begun(), frame(10), ("still", "box", "x"), style(value))
            self.assertEqual([told(made), len(made.players())], [(None, None, n(value), n(value)), 1])


class ChangeTest(unittest.TestCase):
    """[27] with a running transition."""

    def test_its_end_value_does_nothing(self):
        made = lead(begun(), frame(4))
        before = made.copy()
        self.assertTrue(lead(made, style(100)) == before)

    def test_another_value_begins_another_one(self):
        made = lead(begun(), frame(4), style(10))
        self.assertEqual(told(made), (WAYS[1], None, n(40), n(10)))
        self.assertEqual(made.state(WAYS[0]), "idle")
        lead(made, frame(9))
        self.assertEqual(made.value("box", "x"), n(25))
        self.assertEqual(told(lead(made, frame(14))), (None, n(10), n(10), n(10)))

    def test_the_old_one_is_cancelled(self):
        made = lead(begun(), frame(4), style(10))
        self.assertEqual(made.notes(), [("finished refused", WAYS[0])])
        self.assertEqual(made.waiting(), [("cancel", WAYS[0], None, n(4))])

    def test_to_its_present_value_it_is_only_cancelled(self):
        made = lead(begun(), frame(4), style(40))
        self.assertEqual([told(made), made.players()], [(None, None, n(40), n(40)), [WAYS[0]]])

    def test_a_way_that_does_not_count(self):
        made = lead(begun(), frame(4), way(0), style(10))
        self.assertEqual([told(made), made.players()], [(None, None, n(10), n(10)), [WAYS[0]]])
        made = lead(begun(), frame(4), frame(None), style(10))
        self.assertEqual([told(made), made.players()], [(None, None, n(10), n(10)), [WAYS[0]]])

    def test_no_way_at_all(self):
        for value in (10, 100):
            made = lead(begun(), frame(4), ("still", "box", "x"), style(value))
            self.assertEqual(told(made), (None, None, n(value), n(value)))
            self.assertEqual(made.state(WAYS[0]), "idle")

    def test_an_idle_one_is_forgotten_first(self):
        made = lead(begun(), frame(4), ("cancel", WAYS[0]), style(10))
        self.assertEqual(told(made), (WAYS[1], None, n(100), n(10)))
        self.assertEqual(lead(made, frame(9)).value("box", "x"), n(55))
        made = lead(begun(), frame(4), ("cancel", WAYS[0]), style(0))
        self.assertEqual(lead(made, frame(9)).value("box", "x"), n(50))

    def test_the_present_value_without_a_progress(self):
        made = lead(begun(), frame(4), ("seek", WAYS[0], n(50)), style(10))
        self.assertEqual(told(made), (WAYS[1], None, n(100), n(10)))
        made = lead(begun(delay=3), ("seek", WAYS[0], n(-1)), style(10))
        self.assertEqual(told(made), (WAYS[1], None, n(0), n(10)))
        made = lead(begun(), frame(4), frame(None), ("clock", "d"), frame(4, "d"), way(clock="d"), style(10))
        self.assertEqual(told(made), (WAYS[1], None, n(0), n(10)))


class TurnTest(unittest.TestCase):
    def end(self, made, k):
        """The time of the clock at which the transition k ends, if it has begun."""
        return made.next_change(WAYS[k])[0]

    def test_turned_back(self):
        made = lead(begun(), frame(4), style(0))
        self.assertEqual(told(made), (WAYS[1], None, n(40), n(0)))
        self.assertEqual(self.end(made, 1), n(8))
        self.assertEqual(lead(made, frame(5)).value("box", "x"), n(30))
        self.assertEqual(told(lead(made, frame(8))), (None, n(0), n(0), n(0)))

    def test_and_turned_again(self):
        made = lead(begun(), frame(4), style(0), frame(5), style(100))
        self.assertEqual([told(made), self.end(made, 2)], [(WAYS[2], None, n(30), n(100)), n(12)])
        lead(made, frame(9), style(0))
        self.assertEqual([told(made), self.end(made, 3)], [(WAYS[3], None, n(70), n(0)), n(16)])

    def test_many_times(self):
        made, place, clock = begun(), Fraction(0), Fraction(0)
        for k in range(1, 9):
            clock += Fraction(k, 2)
            place += Fraction(10 * k, 2) * (1 if k % 2 else -1)
            place = max(Fraction(0), min(Fraction(100), place))
            lead(made, frame(clock), style(0 if k % 2 else 100))
            self.assertEqual(made.value("box", "x"), n(place))
            left = place if k % 2 else 100 - place
            self.assertEqual(made.next_change(made.transition("box", "x")[0])[0], n(clock + left / 10))

    def test_the_delay_below_0_is_shortened_too(self):
        made = lead(begun(delay=-2), frame(2), style(0))
        self.assertEqual(told(made), (WAYS[1], None, n(Fraction(40) - 40 * Fraction(2, 10)), n(0)))
        self.assertEqual(self.end(made, 1), n(2 + Fraction(16, 5)))

    def test_the_delay_above_0_stays(self):
        made = lead(begun(delay=3), frame(7), style(0))
        self.assertEqual([told(made), self.end(made, 1)], [(WAYS[1], None, n(40), n(0)), n(10)])
        self.assertEqual(told(lead(made, frame(14))), (None, n(0), n(0), n(0)))

    def test_during_the_delay_it_takes_no_length(self):
        made = lead(begun(delay=3), frame(2), style(0))
        self.assertEqual(told(made), (None, None, n(0), n(0)))

    def test_a_third_value_has_the_whole_length(self):
        made = lead(begun(), frame(4), style(0), frame(5), style(50))
        self.assertEqual([told(made), self.end(made, 2)], [(WAYS[2], None, n(30), n(50)), n(15)])
        lead(made, frame(7), style(30))
        self.assertEqual([told(made), self.end(made, 3)], [(WAYS[3], None, n(34), n(30)), n(9)])

    def test_the_progress_behind_the_curve_counts_and_is_cut(self):
        made = lead(begun(curve=BENT), frame(2), style(0))
        self.assertEqual([told(made), self.end(made, 1)], [(WAYS[1], None, n(120), n(0)), n(12)])

    def test_a_progress_below_0_counts_by_its_amount(self):
        down = ("linear", ((n(0), None), (n(Fraction(-1, 2)), None), (n(1), None)))
        made = lead(begun(curve=down), frame(5), style(0))
        self.assertEqual(lead(made, ("finish", WAYS[1])).time(WAYS[1]), n(5))

    def test_by_the_way_at_the_moment_of_the_turn(self):
        made = lead(begun(), frame(4), way(20), style(0))
        self.assertEqual(self.end(made, 1), n(12))

    def test_without_a_progress_past_the_end_it_takes_all(self):
        made = lead(begun(), frame(4), ("seek", WAYS[0], n(50)), style(0))
        self.assertEqual(lead(made, ("finish", WAYS[1])).time(WAYS[1]), n(10))


class LedTest(unittest.TestCase):
    def test_rows_lead_it_by_its_name(self):
        made = lead(begun(), frame(4), ("pause", WAYS[0]), frame(6), ("seek", WAYS[0], n(2)), ("play", WAYS[0]), frame(7))
        self.assertEqual([told(made), made.time(WAYS[0])], [(WAYS[0], None, n(20), n(100)), n(2)])
        lead(made, ("smooth", WAYS[0], n(2)), frame(8), ("reverse", WAYS[0]), ("keep", WAYS[0]), frame(8))
        self.assertEqual([made.rates(WAYS[0]), made.marks(WAYS[0])[2]], [(n(-2), None), "kept"])
        lead(made, ("start", WAYS[0], n(10)))
        self.assertEqual(made.time(WAYS[0]), n(4))
        lead(made, ("rate", WAYS[0], n(1)), ("finish", WAYS[0]), ("commit", WAYS[0]))
        self.assertEqual(made.time(WAYS[0]), n(10))

    def test_no_use_and_no_follow(self):
        made = begun()
        self.assertEqual([refusal(made, (word, WAYS[0], None)) for word in ("use", "follow")], ["state", "state"])

    def test_events(self):
        made = lead(begun(), frame(1), frame(12))
        wanted = [("effect run", n(0), n(0)), ("effect start", n(0), n(0)), ("effect end", n(10), n(10)),
                  ("finish", n(10), n(10))]
        found = [(event[0],) + event[2:] for event in events(made)]
        self.assertEqual(found, wanted[:2] + [("finish", n(10), n(10)), ("effect end", n(10), n(10))])

    def test_played_again_after_its_end_it_lies_in_the_stack(self):
        made = lead(begun(), frame(10), ("play", WAYS[0]), frame(12), frame(15))
        self.assertEqual([told(made), made.stack("box", "x")], [(None, n(100), n(30), n(100)), [WAYS[0]]])

    def test_below_other_effects(self):
        made = lead(begun(), effect(time=timing(20), frames=keys(5, 5), mode="add"), player(kind="styled"), ("play", "p"))
        lead(made, frame(4))
        self.assertEqual([made.value("box", "x"), made.stack("box", "x")], [n(45), [WAYS[0], "e"]])
