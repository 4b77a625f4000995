"""[11]: groups and sequences."""

import unittest
from fractions import Fraction

from making import effect, frame, keys, lead, n, player, refusal, stage, timing

HALF = Fraction(1, 2)


def row(*lengths, top=timing(None), word="sequence", children=None):
    """A stage with a group or a sequence of effects a, b, c .. of these lengths, led by p along the clock c."""
    names = [chr(97 + at) + "kid" for at in range(len(lengths))]
    rows = []
    for name, length in zip(names, lengths):
        time = length if isinstance(length, tuple) else timing(length)
        rows.append(effect(name, time, keys(0, 100, name="abcdef"[len(rows)])))
    made = stage(*rows, (word, "top", top, tuple(names)), ("clock", "c"), player(lead="top"), ("play", "p"), frame(0))
    return made


def active(made, *names):
    """The active times of effects now."""
    return [made.told(name)[1] for name in names]


def end_of(made):
    """The end of the effect of p, seen by its finish."""
    twin = made.copy()
    if refusal(twin, ("finish", "p")) is not None:
        return "endless"
    return twin.time("p")


class LengthTest(unittest.TestCase):
    def test_of_a_group_the_greatest_end(self):
        self.assertEqual(end_of(row(4, 7, 3, word="group")), n(7))
        self.assertEqual(end_of(row(timing(4, delay=2, behind=3), 7, word="group")), n(9))

    def test_of_a_sequence_the_sum_of_the_ends(self):
        self.assertEqual(end_of(row(4, 7, 3)), n(14))
        self.assertEqual(end_of(row(timing(4, delay=2, behind=3), timing(4, delay=-9))), n(9))

    def test_without_children_0(self):
        for word in ("group", "sequence"):
            self.assertEqual(end_of(row(word=word)), n(0))

    def test_a_told_length_counts_instead(self):
        for word in ("group", "sequence"):
            self.assertEqual(end_of(row(4, 7, word=word, top=timing(5))), n(5))
            self.assertEqual(end_of(row(4, 7, word=word, top=timing("endless"))), "endless")
            self.assertEqual(end_of(row(4, 7, word=word, top=timing(0))), n(0))

    def test_the_timing_goes_on_from_the_length(self):
        self.assertEqual(end_of(row(4, 6, top=timing(None, times=3, delay=1, behind=-2))), n(29))

    def test_endless_children(self):
        for word in ("group", "sequence"):
            self.assertEqual(end_of(row(4, "endless", 2, word=word)), "endless")
            self.assertEqual(end_of(row(4, timing(1, times="endless"), word=word)), "endless")

    def test_effects_without_a_length_have_0(self):
        self.assertEqual(end_of(row(timing(None), timing(None, delay=3))), n(3))


class LocalTimeTest(unittest.TestCase):
    def test_children_of_a_group_share_its_time(self):
        made = lead(row(4, 10, word="group"), frame(3))
        self.assertEqual(active(made, "akid", "bkid"), [n(3), n(3)])
        lead(made, frame(5))
        self.assertEqual(active(made, "akid", "bkid"), [None, n(5)])
        self.assertEqual(made.told("akid")[0], "after")

    def test_children_of_a_sequence_follow_each_other(self):
        made = lead(row(4, 10, 2), frame(3))
        self.assertEqual(active(made, "akid", "bkid", "ckid"), [n(3), None, None])
        lead(made, frame(9))
        self.assertEqual(active(made, "akid", "bkid", "ckid"), [None, n(5), None])
        lead(made, frame(15))
        self.assertEqual(active(made, "akid", "bkid", "ckid"), [None, None, n(1)])

    def test_at_the_border_of_two_children(self):
        made = lead(row(4, 10), frame(4))
        self.assertEqual([made.told(name)[0] for name in ("akid", "bkid")], ["after", "active"])

    def test_the_progress_of_the_group_counts(self):
        curve = ("linear", ((n(1), None), (n(0), None)))
        made = lead(row(4, 10, top=timing(None, curve=curve)), frame(3))
        self.assertEqual(active(made, "akid", "bkid"), [None, n(7)])
        made = lead(row(4, 6, top=timing(20)), frame(3))
        self.assertEqual(active(made, "akid"), [n(3)])
        made = lead(row(4, 6, top=timing(5)), frame(3))
        self.assertEqual(active(made, "akid"), [n(3)])
        lead(made, frame(5))
        self.assertEqual(made.told("bkid")[0], "idle")

    def test_without_a_progress_children_have_no_time(self):
        made = row(4, 10, word="group", top=timing(None, delay=5))
        self.assertEqual([made.told(name)[0] for name in ("top", "akid")], ["before", "idle"])

    def test_fills_reach_the_children(self):
        made = lead(row(timing(4, fill="both"), timing(6, fill="both"), top=timing(None, fill="both")), frame(30))
        self.assertEqual(active(made, "akid", "bkid"), [n(4), n(6)])

    def test_iterations_of_a_group_begin_its_children_anew(self):
        made = lead(row(4, 6, top=timing(None, times=3)), frame(12))
        self.assertEqual(active(made, "akid", "bkid"), [n(2), None])

    def test_an_endless_length_takes_the_active_time(self):
        bent = ("linear", ((n(7), None),))
        top = timing("endless", way="reverse", curve=bent, first=HALF, delay=1)
        made = lead(row(4, 6, top=top), frame(8))
        self.assertEqual(active(made, "akid", "bkid"), [None, n(3)])
        made = lead(row(4, 6, top=top, word="group"), frame(4))
        self.assertEqual(active(made, "akid", "bkid"), [n(3), n(3)])

    def test_what_stands_behind_an_endless_child_never_begins(self):
        made = lead(row(4, timing(1, times="endless"), 2, 3), frame(1000))
        self.assertEqual(active(made, "akid", "bkid"), [None, n(996)])
        self.assertEqual([made.told(name)[0] for name in ("ckid", "dkid")], ["idle", "idle"])

    def test_also_with_a_told_length(self):
        made = lead(row(timing(1, times="endless"), 2, top=timing(10)), frame(5))
        self.assertEqual(active(made, "akid"), [n(5)])
        self.assertEqual(made.told("bkid")[0], "idle")


class SignTest(unittest.TestCase):
    def phases(self, made):
        return [made.told(name)[0] for name in ("akid", "bkid")]

    def test_the_rate_tells_the_sign(self):
        made = lead(row(4, 6), frame(4))
        self.assertEqual(self.phases(made), ["after", "active"])
        lead(made, ("rate", "p", n(-1)))
        self.assertEqual(self.phases(made), ["active", "before"])

    def test_a_rate_of_0_leads_forwards(self):
        made = lead(row(4, 6), frame(4), ("rate", "p", n(0)))
        self.assertEqual(self.phases(made), ["after", "active"])

    def test_a_direction_backwards_turns_it_about(self):
        made = lead(row(4, 6, top=timing(None, way="reverse")), frame(6))
        self.assertEqual(self.phases(made), ["active", "before"])
        lead(made, ("rate", "p", n(-1)))
        self.assertEqual(self.phases(made), ["after", "active"])

    def test_two_turns(self):
        made = stage(
            effect("a", timing(4)), effect("b", timing(6)), ("sequence", "g", timing(None, way="reverse"), ("a", "b")),
            ("group", "top", timing(None, way="reverse"), ("g",)), ("clock", "c"), player(lead="top"), ("play", "p"),
            frame(0), frame(4),
        )
        self.assertEqual([made.told(name)[0] for name in ("a", "b")], ["after", "active"])

    def test_an_endless_length_does_not_turn_it(self):
        made = lead(row(4, 6, top=timing("endless", way="reverse")), frame(4))
        self.assertEqual(self.phases(made), ["after", "active"])

    def test_alternating(self):
        made = lead(row(4, 6, top=timing(None, times=2, way="alternate")), frame(16))
        self.assertEqual(self.phases(made), ["active", "before"])


class NestedTest(unittest.TestCase):
    def test_many_levels(self):
        rows = [effect("e", timing(8))]
        last = "e"
        for at in range(12):
            name = "g" + chr(97 + at)
            rows.append(("sequence" if at % 2 else "group", name, timing(None, delay=1), (last,)))
            last = name
        made = stage(*rows, ("clock", "c"), player(lead=last), ("play", "p"), frame(0), frame(15))
        self.assertEqual(made.told("e")[1], n(3))
        self.assertEqual(end_of(made), n(20))
        lead(made, ("retime", "e", timing(4)))
        self.assertEqual(end_of(made), n(16))
        lead(made, ("retime", "gc", timing(None)))
        self.assertEqual(end_of(made), n(15))
        self.assertEqual(made.told("e"), ("idle",) + (None,) * 6)

    def test_effects_stand_from_left_to_right(self):
        add = {"mode": "add", "frames": keys(1, 1)}
        made = stage(
            effect("a", **add), effect("b", **add), effect("d", **add), effect("f", **add),
            ("group", "g", timing(None), ("d", "a")), ("group", "top", timing(None), ("f", "g", "b")), ("clock", "c"),
            player(lead="top"), ("play", "p"), frame(0),
        )
        self.assertEqual(made.stack("box", "x"), ["f", "d", "a", "b"])
        self.assertEqual(made.value("box", "x"), n(4))

    def test_without_a_player_nothing_has_a_time(self):
        made = stage(effect("a"), ("group", "g", timing(None), ("a",)), ("sequence", "top", timing(None), ("g",)))
        for name in ("a", "g", "top"):
            self.assertEqual(made.told(name), ("idle",) + (None,) * 6)
