import inspect
import unittest

from framecues import curves
from framecues.curves import is_curve, rises, settled, value_at

STRAIGHT = ("linear", (((0, 1), (0, 1)), ((1, 1), (1, 1))))


class InterfaceTest(unittest.TestCase):
    def test_the_functions_are_defined_in_the_file_curves(self):
        for name in ("is_curve", "value_at", "settled", "rises"):
            function = getattr(curves, name)
            self.assertTrue(inspect.isfunction(function), name)
            self.assertEqual(function.__module__, "framecues.curves")
            self.assertEqual(function.__name__, name)

    def test_their_arguments_have_the_names_of_the_document(self):
        self.assertEqual(str(inspect.signature(is_curve)), "(thing)")
        self.assertEqual(str(inspect.signature(value_at)), "(curve, x, before=False)")
        self.assertEqual(str(inspect.signature(settled)), "(curve)")
        self.assertEqual(str(inspect.signature(rises)), "(curve)")

    def test_arguments_by_name(self):
        steps = ("steps", 4, "end")
        self.assertIs(is_curve(thing=steps), True)
        self.assertIs(is_curve(thing=4), False)
        self.assertEqual(value_at(curve=steps, x=(1, 2), before=True), (1, 4))
        self.assertEqual(value_at(before=True, x=(1, 2), curve=steps), (1, 4))
        self.assertEqual(value_at(steps, x=(1, 2)), (1, 2))
        self.assertEqual(value_at(steps, (1, 2), before=True), (1, 4))
        self.assertEqual(settled(curve=("linear", (((5, 1), None),))), ("linear", (((5, 1), (0, 1)),)))
        self.assertIs(rises(curve=STRAIGHT), True)

    def test_arguments_by_position(self):
        steps = ("steps", 4, "end")
        self.assertEqual(value_at(steps, (1, 2), True), (1, 4))
        self.assertEqual(value_at(steps, (1, 2), False), (1, 2))

    def test_before_is_not_set_if_it_is_left_out(self):
        self.assertEqual(value_at(("steps", 4, "end"), (1, 2)), (1, 2))
