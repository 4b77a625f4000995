"""[5]: from a local time to phase, iteration and progress."""

import unittest
from fractions import Fraction

from framecues.timings import told_at
from making import n, timing

HALF = Fraction(1, 2)


def phase(time, sign=1, **parts):
    return told_at(timing(**parts), n(time), sign)[0]


def part(at, time, sign=1, **parts):
    return told_at(timing(**parts), n(time), sign)[at]


class PhaseTest(unittest.TestCase):
    def test_no_time(self):
        for sign in (1, -1):
            self.assertEqual(phase(None, sign), "idle")

    def test_within(self):
        for sign in (1, -1):
            self.assertEqual([phase(k, sign) for k in (-1, 5, 11)], ["before", "active", "after"])

    def test_the_first_edge_belongs_to_the_phase_to_which_the_sign_leads(self):
        self.assertEqual(phase(3, 1, delay=3), "active")
        self.assertEqual(phase(3, -1, delay=3), "before")
        self.assertEqual(phase(3 + Fraction(1, 99), -1, delay=3), "active")
        self.assertEqual(phase(3 - Fraction(1, 99), 1, delay=3), "before")

    def test_the_second_edge_belongs_to_the_phase_to_which_the_sign_leads(self):
        self.assertEqual(phase(13, 1, delay=3), "after")
        self.assertEqual(phase(13, -1, delay=3), "active")
        self.assertEqual(phase(13 + Fraction(1, 99), -1, delay=3), "after")
        self.assertEqual(phase(13 - Fraction(1, 99), 1, delay=3), "active")

    def test_both_edges_in_one_place(self):
        for parts in ({"length": 0}, {"times": 0}, {"delay": -10}, {"behind": -10}):
            self.assertEqual(phase(0, 1, **parts), "after")
            self.assertEqual(phase(0, -1, **parts), "before")

    def test_an_end_ahead_of_the_active_duration_cuts_it(self):
        self.assertEqual([phase(k, behind=-4) for k in (5, 6, 8)], ["active", "after", "after"])
        self.assertEqual([phase(k, delay=8, behind=-12) for k in (5, 6, 7, 9)], ["before", "after", "after", "after"])

    def test_endless(self):
        self.assertEqual([phase(k, times="endless") for k in (-1, 0, 10 ** 9)], ["before", "active", "active"])


class ActiveTimeTest(unittest.TestCase):
    def check(self, fill, wanted, **parts):
        found = [part(1, time, fill=fill, **parts) for time in (-2, 1, 3, 7, 13, 20)]
        self.assertEqual(found, [n(time) for time in wanted])

    def test_the_four_fills(self):
        self.check("none", [None, None, 0, 4, None, None], delay=3)
        self.check("forwards", [None, None, 0, 4, 10, 10], delay=3)
        self.check("backwards", [0, 0, 0, 4, None, None], delay=3)
        self.check("both", [0, 0, 0, 4, 10, 10], delay=3)

    def test_a_delay_below_0(self):
        self.assertEqual(part(1, -1, fill="both", delay=-4), n(3))
        self.assertEqual(part(1, -5, fill="both", delay=-4), n(0))
        self.assertEqual(part(1, -1, delay=-4), None)

    def test_an_end_that_cuts(self):
        self.assertEqual(part(1, 8, fill="both", behind=-4), n(8))
        self.assertEqual(part(1, 12, fill="both", behind=-4), n(10))
        self.assertEqual(part(1, 7, fill="forwards", delay=8, behind=-12), n(0))

    def test_the_others_are_none_without_it(self):
        self.assertEqual(told_at(timing(), n(-1), 1), ("before",) + (None,) * 6)
        self.assertEqual(told_at(timing(), n(10), 1), ("after",) + (None,) * 6)


class ProgressTest(unittest.TestCase):
    def check(self, time, overall, simple, iteration, sign=1, **parts):
        found = told_at(timing(**parts), n(time), sign)
        self.assertEqual(found[2:5], (n(overall), n(simple), iteration))

    def test_along_an_iteration(self):
        self.check(0, 0, 0, 0)
        self.check(5, HALF, HALF, 0)
        self.check(5, HALF + 2, HALF, 2, first=2)
        self.check(5, 1, 0, 1, first=HALF)
        self.check(5, Fraction(3, 4), Fraction(3, 4), 0, first=Fraction(1, 4))

    def test_between_iterations(self):
        self.check(10, 1, 0, 1, times=3)
        self.check(20, 2, 0, 2, times=3, sign=-1)
        self.check(25, Fraction(5, 2), HALF, 2, times=3)

    def test_at_the_end_an_iteration_is_whole(self):
        self.check(10, 1, 1, 0, fill="both")
        self.check(30, 3, 1, 2, fill="both", times=3)
        self.check(30, 3, 1, 2, fill="none", times=3, sign=-1)
        self.check(25, Fraction(5, 2), HALF, 2, fill="both", times=Fraction(5, 2))
        self.check(5, 1, 1, 0, fill="both", times=HALF, first=HALF)

    def test_not_ahead_of_the_first_edge(self):
        self.check(-1, 0, 0, 0, fill="both", length=10)
        self.check(-1, 0, 0, 0, fill="both", length=0)
        self.check(-1, 2, 0, 2, fill="both", first=2)

    def test_the_length_0(self):
        self.check(0, 1, 1, 0, fill="both", length=0)
        self.check(0, 0, 0, 0, fill="both", length=0, sign=-1)
        self.check(1, 3, 1, 2, fill="both", length=0, times=3)
        self.check(1, Fraction(7, 2), HALF, 3, fill="both", length=None, times=3, first=HALF)
        self.check(1, Fraction(5, 2), HALF, 2, fill="both", length=0, times=Fraction(5, 2))
        self.check(0, "endless", 1, "endless", fill="both", length=0, times="endless")
        self.check(0, "endless", HALF, "endless", fill="both", length=0, times="endless", first=HALF)
        self.check(-1, HALF, HALF, 0, fill="both", length=0, times="endless", first=HALF)

    def test_no_times(self):
        self.check(0, 0, 0, 0, fill="both", times=0)
        self.check(0, 2, 0, 2, fill="both", times=0, first=2)
        self.check(0, 2, 0, 2, fill="both", times=0, first=2, length=0)
        self.check(0, HALF, HALF, 0, fill="both", times=0, first=HALF, length="endless")
        self.check(0, 0, 0, 0, fill="both", times=0, length="endless")

    def test_an_endless_length(self):
        self.check(1000, 0, 0, 0, length="endless")
        self.check(1000, Fraction(7, 3), Fraction(1, 3), 2, length="endless", first=Fraction(7, 3))

    def test_endless_times(self):
        self.check(1005, Fraction(201, 2), HALF, 100, times="endless")


class DirectionTest(unittest.TestCase):
    def check(self, wanted, way, **parts):
        places = [2, 12, 22]
        found = [part(5, place, times=3, way=way, **parts) for place in places]
        self.assertEqual(found, [n(Fraction(k, 5)) for k in wanted])

    def test_the_four_ways(self):
        self.check([1, 1, 1], "normal")
        self.check([4, 4, 4], "reverse")
        self.check([1, 4, 1], "alternate")
        self.check([4, 1, 4], "alternate reverse")

    def test_the_iteration_counts_from_the_first_share_on(self):
        self.check([4, 1, 4], "alternate", first=1)
        self.check([1, 4, 1], "alternate reverse", first=3)

    def test_an_endless_iteration_leads_forwards_but_for_reverse(self):
        for way, wanted in (("normal", 1), ("reverse", 3), ("alternate", 1), ("alternate reverse", 1)):
            parts = {"length": 0, "times": "endless", "fill": "both", "first": Fraction(1, 4)}
            self.assertEqual(part(5, 3, way=way, **parts), n(Fraction(wanted, 4)))

    def test_at_the_end(self):
        self.assertEqual(part(5, 30, times=3, fill="both", way="alternate"), n(1))
        self.assertEqual(part(5, 20, times=2, fill="both", way="alternate"), n(0))
        self.assertEqual(part(5, 10, fill="both", way="reverse"), n(0))


class CurveTest(unittest.TestCase):
    def test_the_curve_leads_the_directed_progress(self):
        bent = ("linear", ((n(0), None), (n(5), None), (n(2), None)))
        self.assertEqual(part(6, 5, curve=bent), n(5))
        self.assertEqual(part(6, 2, curve=bent), n(2))
        self.assertEqual(part(6, 2, curve=bent, way="reverse"), n(Fraction(16, 5)))

    def test_the_flag_is_set_before_on_a_way_forwards(self):
        steps = ("steps", 2, "start")
        self.assertEqual(part(6, 0, -1, fill="both", curve=steps), n(0))
        self.assertEqual(part(6, 0, 1, fill="both", curve=steps), n(HALF))
        self.assertEqual(part(6, -1, 1, fill="both", curve=steps, first=HALF), n(HALF))

    def test_the_flag_is_set_after_on_a_way_backwards(self):
        steps = ("steps", 2, "start")
        self.assertEqual(part(6, 10, 1, fill="both", curve=steps, way="reverse"), n(0))
        self.assertEqual(part(6, 10, -1, fill="both", curve=steps, way="reverse"), n(HALF))

    def test_the_flag_is_not_set_otherwise(self):
        steps = ("steps", 2, "end")
        self.assertEqual(part(6, 0, -1, fill="both", curve=steps, way="reverse"), n(1))
        self.assertEqual(part(6, 10, 1, fill="both", curve=steps), n(1))
        self.assertEqual(part(6, 5, 1, curve=steps), n(HALF))
        self.assertEqual(part(6, 5, -1, curve=steps, way="reverse"), n(HALF))
