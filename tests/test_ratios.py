import itertools
import unittest
from fractions import Fraction

from framecues.ratios import even_place, even_step, is_ratio, is_whole, less, minus, over, plus, ratio
from framecues.ratios import spread_evenly, times
from reckoning import read, told
from strange import NO_FRACTIONS, OTHERS

NUMBERS = [Fraction(k, n) for k in (-7, -2, -1, 0, 1, 3, 8) for n in (1, 2, 3)]


class RatiosTest(unittest.TestCase):
    def test_integers(self):
        for thing in (0, 1, -1, 10 ** 2000):
            self.assertIs(is_whole(thing), True)
        for thing in OTHERS + [True, False, None, "1", (1, 1)]:
            self.assertIs(is_whole(thing), False)

    def test_fractions(self):
        for number in NUMBERS:
            self.assertIs(is_ratio(told(number)), True)
        for thing in NO_FRACTIONS:
            self.assertIs(is_ratio(thing), False)

    def test_lowest_terms(self):
        for top, bottom in itertools.product(range(-6, 7), [-6, -4, -1, 1, 3, 4]):
            self.assertEqual(ratio(top, bottom), told(Fraction(top, bottom)))

    def test_reckoning(self):
        for a, b in itertools.product(NUMBERS, repeat=2):
            self.assertEqual(read(plus(told(a), told(b))), a + b)
            self.assertEqual(read(minus(told(a), told(b))), a - b)
            self.assertEqual(read(times(told(a), told(b))), a * b)
            self.assertIs(less(told(a), told(b)), a < b)
            if b != 0:
                self.assertEqual(over(told(a), told(b)), told(a / b))

    def test_even_steps(self):
        for low, high in itertools.product(NUMBERS, repeat=2):
            for k in range(4):
                self.assertEqual(read(even_step(told(low), told(high), k, 3)), low + (high - low) * k / 3)
            if low < high:
                for x in NUMBERS:
                    self.assertEqual(even_place(told(low), told(high), 3, told(x)), (x - low) * 3 // (high - low))

    def test_spreading(self):
        self.assertEqual(spread_evenly([(5, 1)]), [(5, 1)])
        places = [(0, 1), None, (1, 1), None, None, (4, 1)]
        self.assertEqual(spread_evenly(places), [(0, 1), (1, 2), (1, 1), (2, 1), (3, 1), (4, 1)])

    def test_spreading_makes_a_new_list(self):
        places = [(0, 1), None, (1, 1)]
        self.assertEqual(spread_evenly(places), [(0, 1), (1, 2), (1, 1)])
        self.assertEqual(places, [(0, 1), None, (1, 1)])
