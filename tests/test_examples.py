"""The blocks of "Examples, call by call" that need no stage."""

import unittest

from framecues.curves import rises, settled, value_at


class ExamplesTest(unittest.TestCase):
    def test_a_line_with_inputs_to_settle(self):
        line = ("linear", (((0, 1), None), ((1, 1), (1, 4)), ((1, 2), None), ((1, 1), None)))
        told = [settled(line), value_at(line, (1, 8)), value_at(line, (5, 8)), value_at(line, (-1, 4)), rises(line)]
        whole = ("linear", (((0, 1), (0, 1)), ((1, 1), (1, 4)), ((1, 2), (5, 8)), ((1, 1), (1, 1))))
        self.assertEqual(told, [whole, (1, 2), (1, 2), (-1, 1), False])

    def test_steps_and_cubics(self):
        told = [
            value_at(("steps", 4, "end"), (1, 2)),
            value_at(("steps", 4, "end"), (1, 2), True),
            value_at(("steps", 4, "both"), (1, 1)),
            value_at(("steps", 3, "none"), (1, 2)),
            value_at(("cubic", (0, 1), (1, 1)), (1, 2)),
            value_at(("cubic", (1, 3), (1, 1)), (2, 1)),
        ]
        self.assertEqual(told, [(1, 2), (1, 4), (1, 1), (1, 2), (1, 2), (1, 1)])
