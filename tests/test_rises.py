import itertools
import unittest
from fractions import Fraction

from framecues.curves import rises, settled, value_at
from reckoning import cubic, line, read, told

HALF = Fraction(1, 2)
TINY = Fraction(1, 10 ** 6)


def rises_at(curve, places):
    """Whether the values at these inputs, from 0 to 1 alone, do not fall."""
    values = [read(value_at(curve, told(x))) for x in sorted(places) if 0 <= x <= 1]
    return all(values[k] <= values[k + 1] for k in range(len(values) - 1))


class LineTest(unittest.TestCase):
    def check(self, wanted, *points):
        self.assertIs(rises(line(*points)), wanted, points)

    def test_lines_that_rise(self):
        self.check(True, (0, 0), (1, 1))
        self.check(True, (-3, None), (-2, None), (7, None))
        self.check(True, (0, HALF), (1, 1))

    def test_flat_lines(self):
        self.check(True, (5, 0), (5, 1))
        self.check(True, (0, 0), (1, Fraction(1, 4)), (1, Fraction(3, 4)), (2, 1))
        self.check(True, (5, None))
        self.check(True, (5, 17))

    def test_lines_that_fall(self):
        self.check(False, (1, 0), (0, 1))
        self.check(False, (0, 0), (2, HALF), (1, 1))
        self.check(False, (1, 0), (0, Fraction(1, 4)), (3, 1))
        self.check(False, (0, 0), (1, Fraction(1, 4)), (1 - TINY, HALF), (3, 1))

    def test_jumps(self):
        self.check(True, (0, 0), (1, HALF), (2, HALF), (3, 1))
        self.check(False, (0, 0), (2, HALF), (1, HALF), (3, 1))
        self.check(True, (0, 0), (1, HALF), (1, HALF), (3, 1))

    def test_only_the_outer_points_of_a_jump_matter(self):
        self.check(True, (0, 0), (1, HALF), (9, HALF), (-9, HALF), (2, HALF), (3, 1))
        self.check(False, (0, 0), (2, HALF), (9, HALF), (-9, HALF), (1, HALF), (3, 1))

    def test_a_jump_at_0_does_not_matter(self):
        self.check(True, (5, 0), (0, 0), (1, 1))
        self.check(True, (7, 0), (5, 0), (0, 0), (1, 1))
        self.check(True, (5, -1), (7, 0), (0, 0), (1, 1))

    def test_a_jump_at_1_matters(self):
        self.check(False, (0, 0), (5, 1), (3, 1))
        self.check(True, (0, 0), (3, 1), (5, 1))
        self.check(True, (0, 0), (3, 1), (-9, 1), (5, 1))
        self.check(False, (0, 0), (5, 1), (3, 1), (9, 2))

    def test_a_jump_at_the_first_point(self):
        self.check(True, (9, HALF), (1, HALF), (2, HALF), (3, 1))
        self.check(False, (0, HALF), (2, HALF), (1, HALF), (3, 1))
        self.check(True, (9, HALF), (1, HALF))
        self.check(True, (9, HALF), (1, HALF), (1, HALF))
        self.check(False, (0, 1), (2, 1), (1, 1))
        self.check(True, (3, 1), (0, 1), (1, 1))

    def test_points_outside_of_0_to_1(self):
        self.check(True, (9, -2), (0, 0), (1, 1), (-9, 2))
        self.check(True, (9, -2), (0, -1), (1, 2), (-9, 3))
        self.check(False, (9, -2), (0, HALF), (1, 1))
        self.check(False, (0, 0), (1, HALF), (0, 5))
        self.check(False, (1, 2), (0, 3))
        self.check(False, (1, -3), (0, -2))
        self.check(True, (1, 2), (2, 3), (0, 4))
        self.check(True, (2, -4), (0, -3), (1, -2))
        self.check(True, (1, -3), (0, -2), (0, -1))
        self.check(False, (5, -1), (4, -1), (0, 2))
        self.check(True, (1, 2), (0, 2))
        self.check(True, (1, -2), (0, -2))

    def test_all_short_lines_as_values_tell(self):
        points = list(itertools.product([0, 1, 2], [-HALF, 0, HALF, 1, Fraction(3, 2)]))
        for length in (1, 2, 3):
            for choice in itertools.product(points, repeat=length):
                self.compare(line(*choice))

    def test_some_longer_lines_as_values_tell(self):
        points = list(itertools.product([0, 1, 2], [HALF, 1]))
        for choice in itertools.product(points, repeat=4):
            self.compare(line(*choice))

    def compare(self, curve):
        told_places = [read(place) for _, place in settled(curve)[1]]
        places = {Fraction(0), Fraction(1)}
        for place in told_places:
            places.update([place, place - TINY, place + TINY])
        self.assertIs(rises(curve), rises_at(curve, places), curve)

    def test_many_points(self):
        rising = ("linear", tuple(((k, 1), None) for k in range(1001)))
        self.assertIs(rises(rising), True)
        self.assertIs(rises(("linear", rising[1][:700] + (((698, 1), None),) + rising[1][700:])), False)


class CubicTest(unittest.TestCase):
    def test_cubics_that_rise(self):
        for a, b in ((0, 1), (0, 0), (1, 1), (Fraction(1, 3), Fraction(2, 3)), (0, HALF), (1, 0), (HALF, HALF)):
            self.assertIs(rises(cubic(a, b)), True, (a, b))

    def test_an_end_that_falls(self):
        for a, b in ((-TINY, 1), (-TINY, 0), (0, 1 + TINY), (HALF, 1 + TINY), (-5, 5), (-1, HALF), (2, 2)):
            self.assertIs(rises(cubic(a, b)), False, (a, b))

    def test_the_border_in_the_midst(self):
        # The slope touches 0 where (a - b) ** 2 is a * (1 - b).
        for a, b in ((1, 0), (Fraction(16, 13), Fraction(4, 13)), (Fraction(4, 7), Fraction(-2, 7))):
            self.assertIs(rises(cubic(a, b)), True, (a, b))
            self.assertIs(rises(cubic(a + TINY, b)), False, (a, b))
            self.assertIs(rises(cubic(a - TINY, b)), True, (a, b))
            self.assertIs(rises(cubic(a, b - TINY)), False, (a, b))
            self.assertIs(rises(cubic(a, b + TINY)), True, (a, b))

    def test_the_greatest_a_and_the_least_b(self):
        a, b = Fraction(4, 3), Fraction(2, 3)
        self.assertIs(rises(cubic(a, b)), True)
        for beside in (cubic(a + TINY, b), cubic(a, b + TINY), cubic(a, b - TINY)):
            self.assertIs(rises(beside), False)
        a, b = Fraction(1, 3), Fraction(-1, 3)
        self.assertIs(rises(cubic(a, b)), True)
        for beside in (cubic(a, b - TINY), cubic(a + TINY, b), cubic(a - TINY, b)):
            self.assertIs(rises(beside), False)

    def test_a_flat_end_and_a_bend(self):
        self.assertIs(rises(cubic(0, -TINY)), False)
        self.assertIs(rises(cubic(1 + TINY, 1)), False)
        self.assertIs(rises(cubic(0, 0)), True)
        self.assertIs(rises(cubic(1, 1)), True)

    def test_as_values_tell(self):
        places = [Fraction(k, 96) for k in range(97)]
        parts = [Fraction(k, 4) for k in (-2, -1, 0, 1, 2, 3, 4, 5, 6)]
        for a, b in itertools.product(parts, repeat=2):
            curve = cubic(a, b)
            self.assertIs(rises(curve), rises_at(curve, places), curve)


class StepsTest(unittest.TestCase):
    def test_steps_rise(self):
        for where in ("start", "end", "none", "both"):
            for count in (2, 3, 10, 10 ** 30):
                self.assertIs(rises(("steps", count, where)), True)
        self.assertIs(rises(("steps", 1, "end")), True)

    def test_as_values_tell(self):
        for where in ("start", "end", "none", "both"):
            self.assertTrue(rises_at(("steps", 4, where), [Fraction(k, 24) for k in range(25)]))
