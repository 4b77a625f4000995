import itertools
import unittest
from fractions import Fraction

from framecues.curves import settled
from reckoning import cubic, line, settled_places, told


def inputs(*places):
    """The settled inputs of a line with these, as numbers."""
    curve = line(*[(at, place) for at, place in enumerate(places)])
    after = settled(curve)
    if [value for value, _ in after[1]] != [value for value, _ in curve[1]]:
        raise AssertionError("the values are not those of the curve")
    return [Fraction(*place) for _, place in after[1]]


class SettledTest(unittest.TestCase):
    def test_told_inputs_that_do_not_fall_stay(self):
        for places in ([0, 1], [-3, -2, 5], [0, 0, 0], [2], [-1], [Fraction(1, 3), Fraction(1, 3), 7]):
            self.assertEqual(inputs(*places), places)

    def test_a_first_none_is_0_and_a_last_one_1(self):
        self.assertEqual(inputs(None, 1), [0, 1])
        self.assertEqual(inputs(None, Fraction(1, 2)), [0, Fraction(1, 2)])
        self.assertEqual(inputs(0, None), [0, 1])
        self.assertEqual(inputs(-2, None), [-2, 1])
        self.assertEqual(inputs(None, None), [0, 1])

    def test_one_point_alone(self):
        self.assertEqual(inputs(None), [0])
        self.assertEqual(inputs(Fraction(-5, 2)), [Fraction(-5, 2)])

    def test_an_input_that_falls_becomes_the_greatest_ahead_of_it(self):
        self.assertEqual(inputs(1, 0), [1, 1])
        self.assertEqual(inputs(0, 3, 2, 1, 4), [0, 3, 3, 3, 4])
        self.assertEqual(inputs(0, 3, 1, 2), [0, 3, 3, 3])
        self.assertEqual(inputs(None, -1, -2, 1), [0, 0, 0, 1])

    def test_a_last_none_is_1_first_and_then_may_fall(self):
        self.assertEqual(inputs(2, None), [2, 2])
        self.assertEqual(inputs(0, 3, None), [0, 3, 3])

    def test_none_between_told_ones_is_spread_evenly(self):
        self.assertEqual(inputs(0, None, 1), [0, Fraction(1, 2), 1])
        self.assertEqual(inputs(0, None, None, 1), [0, Fraction(1, 3), Fraction(2, 3), 1])
        self.assertEqual(inputs(-1, None, None, None, 7), [-1, 1, 3, 5, 7])
        self.assertEqual(inputs(0, None, 2, None, None, 5), [0, 1, 2, 3, 4, 5])

    def test_runs_of_none_at_both_ends(self):
        self.assertEqual(inputs(None, None, None), [0, Fraction(1, 2), 1])
        self.assertEqual(
            inputs(None, None, Fraction(1, 2), None, None),
            [0, Fraction(1, 4), Fraction(1, 2), Fraction(3, 4), 1],
        )
        self.assertEqual(inputs(None, None, None, 6), [0, 2, 4, 6])
        self.assertEqual(inputs(-2, None, None), [-2, Fraction(-1, 2), 1])

    def test_inputs_are_lifted_ahead_of_the_spreading(self):
        self.assertEqual(inputs(0, 4, None, 2), [0, 4, 4, 4])
        self.assertEqual(inputs(0, 4, None, 2, None, 6), [0, 4, 4, 4, 5, 6])
        self.assertEqual(inputs(None, None, -4), [0, 0, 0])

    def test_all_short_lines_as_the_document_says(self):
        places = [None, -1, 0, Fraction(1, 2), 1, 2]
        for length in (1, 2, 3, 4):
            for choice in itertools.product(places, repeat=length):
                curve = line(*[(at, place) for at, place in enumerate(choice)])
                after = settled(curve)
                wanted = tuple((told(at), told(place)) for at, place in enumerate(settled_places(curve)))
                self.assertEqual(after, ("linear", wanted))
                self.assertEqual(settled(after), after)

    def test_other_curves_stay_as_they_are(self):
        for curve in (cubic(0, 1), cubic(-3, Fraction(5, 2)), ("steps", 1, "start"), ("steps", 9, "none")):
            self.assertEqual(settled(curve), curve)

    def test_what_was_passed_is_not_changed(self):
        curve = line((0, None), (1, 3), (2, None), (3, 2), (4, None))
        same = line((0, None), (1, 3), (2, None), (3, 2), (4, None))
        settled(curve)
        self.assertEqual(curve, same)

    def test_many_points(self):
        curve = ("linear", tuple(((k, 1), None) for k in range(1001)))
        after = settled(curve)
        self.assertEqual(after[1][0], ((0, 1), (0, 1)))
        self.assertEqual(after[1][1], ((1, 1), (1, 1000)))
        self.assertEqual(after[1][500], ((500, 1), (1, 2)))
        self.assertEqual(after[1][1000], ((1000, 1), (1, 1)))

    def test_long_fractions(self):
        high = 10 ** 1999 + 1
        curve = line((0, Fraction(1, high)), (1, None), (2, high))
        self.assertEqual(settled(curve)[1][1][1], told((Fraction(1, high) + high) / 2))
