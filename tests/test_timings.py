"""[4] and [6]: what timings are, their edges, and which errors come first."""

import inspect
import itertools
import unittest
from fractions import Fraction

from framecues import timings
from framecues.errors import NoNumber, NoSign, NoTiming
from framecues.timings import PLAIN, edges, is_timing, told_at
from making import STRAIGHT, n, timing
from model import Times, facts_told, read
from model import told as told_number
from strange import ALL, NEAR_FRACTIONS, NO_FRACTIONS

TIMINGS = [
    PLAIN,
    timing(),
    timing("endless"),
    timing(None),
    timing(0),
    timing(times="endless"),
    timing(times=0, first=Fraction(7, 3), delay=-5, behind=-9),
    timing(Fraction(1, 3), way="reverse", fill="forwards", curve=("steps", 3, "both")),
    timing(way="alternate", fill="backwards", curve=("cubic", n(2), n(-1))),
    timing(way="alternate reverse", fill="both", times=Fraction(5, 2)),
]
NO_SIGNS = [thing for thing in ALL if thing is True or thing not in (1, -1)] + [2, -2, (1, 1), (-1, 1)]


class IsTimingTest(unittest.TestCase):
    def check_part(self, at, right, wrong):
        for thing in right:
            self.assertIs(is_timing(PLAIN[:at] + (thing,) + PLAIN[at + 1:]), True, thing)
        for thing in wrong:
            self.assertIs(is_timing(PLAIN[:at] + (thing,) + PLAIN[at + 1:]), False, thing)

    def test_plain(self):
        straight = ("linear", (((0, 1), (0, 1)), ((1, 1), (1, 1))))
        self.assertEqual(PLAIN, ((0, 1), (0, 1), "none", (0, 1), (1, 1), None, "normal", straight))
        self.assertIs(is_timing(PLAIN), True)

    def test_timings(self):
        for thing in TIMINGS:
            self.assertIs(is_timing(thing), True)

    def test_other_things(self):
        for thing in ALL + NEAR_FRACTIONS + [(), PLAIN[0], STRAIGHT, list(PLAIN)]:
            self.assertIs(is_timing(thing), False, thing)

    def test_each_part_left_out_or_one_too_many(self):
        for at in range(8):
            self.assertIs(is_timing(PLAIN[:at] + PLAIN[at + 1:]), False)
        for at in range(9):
            for thing in (None, (0, 1), "none", STRAIGHT):
                self.assertIs(is_timing(PLAIN[:at] + (thing,) + PLAIN[at:]), False)

    def test_delay_and_behind(self):
        for at in (0, 1):
            self.check_part(at, [(0, 1), (-7, 2), (5, 1)], NO_FRACTIONS + ["endless", None])

    def test_fill(self):
        self.check_part(2, ["none", "forwards", "backwards", "both"], ALL + ["Both", "forward", "", (0, 1), ("none",)])

    def test_first_is_not_below_0(self):
        self.check_part(3, [(0, 1), (1, 2), (3, 1)], NO_FRACTIONS + ["endless", (-1, 2), (-1, 1)])

    def test_times_is_not_below_0_or_endless(self):
        wrong = [thing for thing in NO_FRACTIONS if not isinstance(thing, str)]
        self.check_part(4, [(0, 1), (1, 2), (3, 1), "endless"], wrong + [None, "Endless", "", "none", (-1, 2), (-1, 1)])

    def test_length_is_not_below_0_or_endless_or_none(self):
        wrong = [thing for thing in NO_FRACTIONS if not isinstance(thing, str) and thing is not None]
        self.check_part(5, [(0, 1), (1, 2), (3, 1), "endless", None], wrong + ["auto", "", "none", (-1, 2), (-1, 1)])

    def test_way(self):
        right = ["normal", "reverse", "alternate", "alternate reverse"]
        self.check_part(6, right, ALL + ["alternate-reverse", "reverse alternate", "Normal", "", ("normal",)])

    def test_curve(self):
        right = [STRAIGHT, ("cubic", (0, 1), (1, 1)), ("steps", 2, "none")]
        self.check_part(7, right, ALL + ["linear", ("linear",), ("steps", 1, "none"), ("cubic", (0, 1))])


class EdgesTest(unittest.TestCase):
    def check(self, wanted, **parts):
        self.assertEqual(edges(timing(**parts)), tuple(n(part) for part in wanted))

    def test_without_delays(self):
        self.check((0, 10, 10))
        self.check((0, 25, 25), times=Fraction(5, 2))

    def test_delays(self):
        self.check((3, 13, 13), delay=3)
        self.check((0, 7, 7), delay=-3)
        self.check((0, 0, 0), delay=-10)
        self.check((0, 0, 0), delay=-30)

    def test_what_is_behind(self):
        self.check((0, 10, 14), behind=4)
        self.check((0, 6, 6), behind=-4)
        self.check((0, 0, 0), behind=-14)
        self.check((2, 12, 15), delay=2, behind=3)
        self.check((1, 1, 1), delay=2, behind=-11)
        self.check((2, 2, 2), delay=2, behind=-10)
        self.check((0, 0, 5), delay=-15, behind=10)

    def test_no_length(self):
        self.check((0, 0, 0), length=0)
        self.check((0, 0, 0), length=None)
        self.check((3, 3, 5), length=None, delay=3, behind=2)
        self.check((3, 3, 3), length=10, times=0, delay=3)
        self.check((3, 3, 3), length="endless", times=0, delay=3)
        self.check((3, 3, 3), length=0, times="endless", delay=3)

    def test_endless(self):
        self.check((0, "endless", "endless"), length="endless")
        self.check((0, "endless", "endless"), times="endless")
        self.check((4, "endless", "endless"), length="endless", times="endless", delay=4, behind=-100)
        self.check((0, "endless", "endless"), times="endless", delay=-4, behind=4)

    def test_no_timing(self):
        for thing in ALL + [(), PLAIN[1:], PLAIN + (None,)]:
            with self.assertRaises(NoTiming):
                edges(thing)

    def test_all_as_the_document_says(self):
        numbers = (-7, 0, Fraction(1, 2), 5)
        for delay, behind, times in itertools.product(numbers, numbers, (0, 1, Fraction(3, 2), "endless")):
            for length in (0, 4, "endless", None):
                parts = timing(length, delay=delay, behind=behind, times=times)
                other = Times(parts, Fraction(0) if length is None else read(parts[5]))
                wanted = tuple(told_number(edge) for edge in (other.edge1, other.edge2, other.end))
                self.assertEqual(edges(parts), wanted)


class ErrorsTest(unittest.TestCase):
    def test_no_timing_comes_first(self):
        for thing in ALL:
            for time, sign in (((0, 1), 1), ("none", 1), ((0, 1), 0), ("none", 0)):
                with self.assertRaises(NoTiming):
                    told_at(thing, time, sign)

    def test_then_the_time(self):
        for thing in NO_FRACTIONS + ["endless", (2, 2)]:
            if thing is not None:
                for sign in (1, -1, 0, None):
                    with self.assertRaises(NoNumber):
                        told_at(PLAIN, thing, sign)

    def test_then_the_sign(self):
        for thing in NO_SIGNS:
            for time in (None, (0, 1)):
                with self.assertRaises(NoSign):
                    told_at(PLAIN, time, thing)

    def test_none_is_a_time(self):
        for sign in (1, -1):
            self.assertEqual(told_at(PLAIN, None, sign), ("idle", None, None, None, None, None, None))

    def test_arguments_by_name(self):
        self.assertEqual(told_at(sign=1, time=(2, 1), timing=timing())[1], (2, 1))
        self.assertEqual(edges(timing=timing()), ((0, 1), (10, 1), (10, 1)))
        self.assertIs(is_timing(thing=PLAIN), True)

    def test_the_file_defines_them(self):
        for name, signature in (("is_timing", "(thing)"), ("edges", "(timing)"), ("told_at", "(timing, time, sign)")):
            function = getattr(timings, name)
            self.assertEqual(function.__module__, "framecues.timings")
            self.assertEqual(str(inspect.signature(function)), signature)

    def test_a_timing_is_not_changed(self):
        made, same = timing(times=3), timing(times=3)
        told_at(made, (3, 1), 1)
        edges(made)
        self.assertEqual(made, same)


class AllTest(unittest.TestCase):
    """[5] at many timings and times, beside the model."""

    def check(self, made):
        length = Fraction(0) if made[5] is None else read(made[5])
        other = Times(made, length)
        places = [Fraction(k, 2) for k in range(-10, 31)]
        for place in [other.delay, other.edge1, other.edge2, other.end, other.delay + other.duration]:
            if place != float("inf"):
                places += [place, place - Fraction(1, 7), place + Fraction(1, 7)]
        for place, sign in itertools.product(places, (1, -1)):
            self.assertEqual(told_at(made, told_number(place), sign), facts_told(other.all(place, sign)), (made, place))

    def test_delays_and_fills(self):
        for delay, behind, fill in itertools.product((-3, 0, 2), (-3, 0, 4), ("none", "forwards", "backwards", "both")):
            self.check(timing(4, delay=delay, behind=behind, fill=fill, times=Fraction(3, 2)))

    def test_lengths_times_and_firsts(self):
        lengths = (0, 4, "endless", None)
        for length, times, first in itertools.product(lengths, (0, 1, 3, Fraction(5, 2), "endless"), (0, Fraction(1, 2), 2)):
            self.check(timing(length, delay=-1, fill="both", times=times, first=first))

    def test_ways_and_curves(self):
        curves = [("steps", 2, where) for where in ("start", "end", "none", "both")] + [("cubic", n(2), n(-1))]
        for way, curve in itertools.product(("normal", "reverse", "alternate", "alternate reverse"), curves):
            self.check(timing(2, delay=1, behind=-1, fill="both", times=3, first=1, way=way, curve=curve))
            self.check(timing(2, delay=-3, behind=1, fill="both", times=3, way=way, curve=curve))
