import itertools
import unittest
from fractions import Fraction

from framecues.curves import settled, value_at
from framecues.errors import NoCurve, NoFlag, NoNumber
from reckoning import cubic, cubic_value, line, line_value, placed_value, read, settled_places, steps_value, told

HALF = Fraction(1, 2)
GRID = [Fraction(k, 12) for k in range(-18, 31)]


def at(curve, x, before=False):
    return read(value_at(curve, told(x), before))


class LineTest(unittest.TestCase):
    def check(self, curve, pairs):
        for x, value in pairs:
            self.assertEqual(value_at(curve, told(x)), told(value), x)
            self.assertEqual(value_at(curve, told(x), True), told(value), x)

    def test_between_and_beyond_two_points(self):
        curve = line((10, 0), (30, 1))
        self.check(curve, [(0, 10), (1, 30), (HALF, 20), (-1, -10), (2, 50), (Fraction(1, 3), Fraction(50, 3))])

    def test_at_the_points_and_between_them(self):
        curve = line((0, 0), (4, Fraction(1, 4)), (2, HALF), (2, Fraction(3, 4)), (1, 1))
        self.check(curve, [(0, 0), (Fraction(1, 4), 4), (HALF, 2), (Fraction(3, 4), 2), (1, 1)])
        eighths = [(1, 2), (3, 3), (5, 2), (7, Fraction(3, 2))]
        self.check(curve, [(Fraction(k, 8), value) for k, value in eighths])
        self.check(curve, [(-1, -16), (2, -3)])

    def test_one_point_alone(self):
        for curve in (line((7, None)), line((7, 0)), line((7, 5))):
            self.check(curve, [(x, 7) for x in (-10, 0, HALF, 1, 5, 100)])

    def test_the_value_behind_a_jump(self):
        curve = line((0, 0), (1, HALF), (5, HALF), (6, 1))
        self.check(curve, [(Fraction(499, 1000), Fraction(499, 500)), (HALF, 5), (1, 6)])

    def test_a_jump_over_several_points(self):
        curve = line((0, 0), (1, HALF), (9, HALF), (-9, HALF), (2, HALF), (3, 1))
        self.check(curve, [(Fraction(1, 4), HALF), (HALF, 2), (1, 3)])

    def test_equal_inputs_at_the_first_end(self):
        curve = line((0, 0), (1, 0), (2, 0), (3, 1))
        self.check(curve, [(-1, 1), (Fraction(-1, 1000), 1), (0, 2), (HALF, Fraction(5, 2)), (1, 3), (2, 4)])

    def test_equal_inputs_at_the_last_end(self):
        curve = line((0, 0), (1, 1), (2, 1), (3, 1))
        self.check(curve, [(-1, -1), (HALF, HALF), (1, 3), (2, 3)])

    def test_equal_inputs_alone(self):
        self.check(line((5, 1), (6, 1)), [(0, 6), (1, 6), (2, 6)])
        self.check(line((5, 1), (6, 1), (7, 1)), [(0, 6), (Fraction(999, 1000), 6), (1, 7), (2, 7)])

    def test_inputs_are_settled_first(self):
        self.check(line((0, None), (1, None), (4, None)), [(0, 0), (HALF, 1), (Fraction(3, 4), Fraction(5, 2)), (1, 4)])
        self.check(line((0, 0), (1, 2), (8, 1)), [(1, HALF), (2, 8), (3, 8)])

    def test_many_points(self):
        curve = ("linear", tuple(((k * k, 1), None) for k in range(1001)))
        for k in (0, 1, 77, 500, 999, 1000):
            self.assertEqual(value_at(curve, told(Fraction(k, 1000))), (k * k, 1))
        self.assertEqual(value_at(curve, told(Fraction(999, 2000))), told(Fraction(499 ** 2 + 500 ** 2, 2)))
        self.assertEqual(value_at(curve, (2, 1)), (10 ** 6 + 1999 * 1000, 1))

    def test_all_short_lines_as_the_document_says(self):
        points = list(itertools.product([0, 3], [None, 0, HALF, 1, Fraction(5, 4)]))
        places = [Fraction(k, 8) for k in (-4, 0, 1, 4, 6, 8, 9, 10, 12)]
        for length in (1, 2, 3):
            for choice in itertools.product(points, repeat=length):
                curve = line(*choice)
                for x in places:
                    self.assertEqual(at(curve, x), line_value(curve, x), (curve, x))

    def test_long_fractions(self):
        high = 10 ** 1999 + 1
        curve = line((Fraction(1, high), 0), (high, Fraction(high, high - 1)))
        x = Fraction(high - 2, high)
        self.assertTrue(value_at(curve, told(x)) == told(line_value(curve, x)))


class ManyPointsTest(unittest.TestCase):
    """Lines of 130 points, asked at many inputs one after another."""

    VALUES = [k * k % 17 - 5 for k in range(130)]

    def check(self, places):
        curve = line(*zip(self.VALUES, places))
        values = [Fraction(value) for value in self.VALUES]
        whole = settled_places(curve)
        inputs = [Fraction(2 * j + 1, 2) for j in range(200)] + [Fraction(-7), Fraction(10 ** 9)]
        for place in whole:
            inputs = inputs + [place - Fraction(1, 1000), place, place + Fraction(1, 1000)]
        for x in inputs:
            wanted = told(placed_value(values, whole, x))
            for flag in (False, True):
                self.assertEqual(value_at(curve, told(x), flag), wanted, x)
                self.assertEqual(value_at(settled(curve), told(x), flag), wanted, x)

    def test_told_inputs(self):
        self.check(list(range(130)))
        self.check([Fraction(k * k, 130) for k in range(130)])

    def test_told_inputs_that_fall_and_stay(self):
        self.check([k * 7 % 50 + k // 3 for k in range(130)])
        self.check([k // 4 for k in range(130)])
        self.check([50 - k for k in range(130)])

    def test_missing_inputs(self):
        self.check([None] * 130)

    def test_mixed_inputs(self):
        self.check([k if k % 3 == 0 else None for k in range(130)])
        self.check([None if k % 5 else 60 - k // 2 for k in range(130)])
        self.check([None] * 40 + [7] + [None] * 40 + [5, 6, None, 8] + [None] * 45)

    def test_each_call_is_looked_at_anew(self):
        curve = line(*[(k, k) for k in range(130)])
        self.assertEqual(value_at(curve, (5, 2)), (5, 2))
        spoilt = ("linear", curve[1][:129] + (((2, 4), (129, 1)),))
        for wrong, x, flag, error in (
            (spoilt, (5, 2), False, NoCurve),
            (("linear", list(curve[1])), (5, 2), False, NoCurve),
            (curve, (10, 4), False, NoNumber),
            (curve, (5, 2), 1, NoFlag),
        ):
            with self.assertRaises(error):
                value_at(wrong, x, flag)
        self.assertEqual(value_at(curve, (5, 2), True), (5, 2))


class CubicTest(unittest.TestCase):
    def test_from_0_to_1(self):
        curve = cubic(Fraction(1, 3), Fraction(2, 3))
        for x in (0, Fraction(1, 7), HALF, 1):
            self.assertEqual(at(curve, x), x)
        self.assertEqual(at(cubic(0, 1), Fraction(1, 4)), Fraction(5, 32))
        self.assertEqual(at(cubic(1, 1), HALF), Fraction(7, 8))
        self.assertEqual(at(cubic(0, 0), HALF), Fraction(1, 8))

    def test_at_the_ends(self):
        for a, b in itertools.product([-2, 0, HALF, 3], repeat=2):
            self.assertEqual(value_at(cubic(a, b), (0, 1)), (0, 1))
            self.assertEqual(value_at(cubic(a, b), (1, 1)), (1, 1))

    def test_below_0_and_above_1(self):
        self.assertEqual(at(cubic(2, 5), -3), -18)
        self.assertEqual(at(cubic(2, 5), Fraction(-1, 6)), -1)
        self.assertEqual(at(cubic(2, 5), 2), -11)
        self.assertEqual(at(cubic(2, 0), Fraction(3, 2)), Fraction(5, 2))
        self.assertEqual(at(cubic(0, 1), -7), 0)
        self.assertEqual(at(cubic(0, 1), 7), 1)

    def test_the_formulas_of_the_document(self):
        parts = [Fraction(k, 3) for k in (-5, -1, 0, 1, 2, 3, 7)]
        for a, b in itertools.product(parts, repeat=2):
            curve = cubic(a, b)
            for x in GRID:
                self.assertEqual(at(curve, x), cubic_value(curve, x), (curve, x))
                self.assertEqual(at(curve, x, True), cubic_value(curve, x), (curve, x))

    def test_long_fractions(self):
        high = 10 ** 1999 + 1
        curve = cubic(Fraction(high, high - 1), Fraction(1, high))
        for x in (Fraction(1, high), Fraction(-high, high - 2), Fraction(high, high - 1)):
            self.assertTrue(value_at(curve, told(x)) == told(cubic_value(curve, x)))


class StepsTest(unittest.TestCase):
    def check(self, curve, before, pairs):
        for x, value in pairs:
            self.assertEqual(value_at(curve, told(x), before), told(value), (curve, x, before))

    def test_end(self):
        curve = ("steps", 2, "end")
        self.check(curve, False, [(0, 0), (Fraction(1, 4), 0), (HALF, HALF), (Fraction(3, 4), HALF), (1, 1)])
        self.check(curve, False, [(Fraction(-1, 9), -HALF), (-HALF, -HALF), (-1, -1), (Fraction(5, 4), 1), (2, 2)])
        self.check(curve, True, [(0, 0), (HALF, 0), (Fraction(3, 4), HALF), (1, HALF)])
        self.check(curve, True, [(-HALF, -1), (2, Fraction(3, 2))])

    def test_start(self):
        curve = ("steps", 2, "start")
        self.check(curve, False, [(0, HALF), (Fraction(1, 4), HALF), (HALF, 1), (Fraction(3, 4), 1), (1, 1)])
        self.check(curve, False, [(Fraction(-1, 9), 0), (-HALF, 0), (-1, -HALF), (Fraction(5, 4), Fraction(3, 2))])
        self.check(curve, True, [(0, 0), (HALF, HALF), (Fraction(3, 4), 1), (1, 1), (-HALF, -HALF), (2, 2)])

    def test_none(self):
        curve = ("steps", 3, "none")
        third = Fraction(1, 3)
        self.check(curve, False, [(0, 0), (Fraction(1, 4), 0), (third, HALF), (2 * third, 1), (1, 1), (2, 3)])
        self.check(curve, False, [(Fraction(-1, 9), -HALF), (-third, -HALF), (-1, Fraction(-3, 2)), (4 * third, 2)])
        self.check(curve, True, [(0, 0), (third, 0), (2 * third, HALF), (1, 1), (4 * third, Fraction(3, 2))])

    def test_both(self):
        curve = ("steps", 2, "both")
        third = Fraction(1, 3)
        self.check(curve, False, [(0, third), (Fraction(1, 4), third), (HALF, 2 * third), (1, 1)])
        self.check(curve, False, [(Fraction(3, 2), 4 * third), (Fraction(-1, 9), 0), (-HALF, 0), (-1, -third)])
        self.check(curve, True, [(0, 0), (HALF, third), (Fraction(3, 4), 2 * third), (1, 2 * third), (2, 4 * third)])

    def test_one_step(self):
        self.check(("steps", 1, "end"), False, [(0, 0), (Fraction(99, 100), 0), (1, 1)])
        self.check(("steps", 1, "start"), False, [(0, 1), (Fraction(99, 100), 1), (1, 1)])
        self.check(("steps", 1, "both"), False, [(0, HALF), (Fraction(99, 100), HALF), (1, 1)])
        self.check(("steps", 2, "none"), False, [(0, 0), (Fraction(49, 100), 0), (HALF, 1), (1, 1)])

    def test_the_flag_matters_at_borders_only(self):
        for where in ("start", "end", "none", "both"):
            curve = ("steps", 4, where)
            for k in range(-4, 8):
                border = Fraction(k, 4)
                beside = border + Fraction(1, 1000)
                self.assertEqual(at(curve, beside, True), at(curve, beside))
                below = border - Fraction(1, 1000)
                self.assertEqual(at(curve, below, True), at(curve, below))

    def test_the_rules_of_the_document(self):
        for where, count in itertools.product(["start", "end", "none", "both"], [2, 3, 4, 5, 12]):
            curve = ("steps", count, where)
            for x, before in itertools.product(GRID, [False, True]):
                self.assertEqual(at(curve, x, before), steps_value(curve, x, before), (curve, x, before))

    def test_a_great_count(self):
        count = 10 ** 40
        third = Fraction(1, 3)
        self.assertEqual(at(("steps", count, "end"), third), Fraction(count // 3, count))
        self.assertEqual(at(("steps", count, "start"), third), Fraction(count // 3 + 1, count))
        self.assertEqual(at(("steps", count, "none"), third), Fraction(count // 3, count - 1))
        self.assertEqual(at(("steps", count, "both"), third), Fraction(count // 3 + 1, count + 1))
        self.assertEqual(at(("steps", count, "end"), HALF, True), Fraction(count // 2 - 1, count))


class ValuesTest(unittest.TestCase):
    def test_values_are_fractions_in_lowest_terms(self):
        curves = [line((0, 0), (6, 2)), line((-4, 0), (8, 1), (2, 1)), cubic(HALF, 4)]
        curves = curves + [("steps", 6, "both"), ("steps", 4, "end")]
        for curve, x in itertools.product(curves, GRID):
            value = value_at(curve, told(x))
            self.assertEqual([type(value), type(value[0]), type(value[1])], [tuple, int, int])
            self.assertEqual(value, told(Fraction(value[0], value[1])))

    def test_nothing_hangs_on_what_was_asked_ahead(self):
        curves = [line((0, None), (6, 2), (1, None)), cubic(HALF, 4), ("steps", 6, "both")]
        asked = list(itertools.product(curves, GRID, [False, True]))
        first = [value_at(curve, told(x), before) for curve, x, before in asked]
        again = [value_at(curve, told(x), before) for curve, x, before in reversed(asked)]
        self.assertEqual(first, again[::-1])
