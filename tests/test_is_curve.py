import unittest

from framecues.curves import is_curve, rises, settled, value_at
from framecues.errors import NoCurve, NoFlag, NoNumber
from strange import ALL, NEAR_FRACTIONS, NO_FLAGS, NO_FRACTIONS

GREAT = (10 ** 1999 + 1, 10 ** 1999)

CURVES = [
    ("linear", (((0, 1), None),)),
    ("linear", (((5, 7), (-3, 2)),)),
    ("linear", (((0, 1), (0, 1)), ((1, 1), (1, 1)))),
    ("linear", (((0, 1), None), ((9, 1), None), ((-1, 1), None))),
    ("linear", (((0, 1), (2, 1)), ((9, 1), (1, 1)), ((-1, 1), (-7, 3)))),
    ("linear", ((GREAT, GREAT), (GREAT, None))),
    ("linear", (((0, 1), None),) * 500),
    ("cubic", (0, 1), (1, 1)),
    ("cubic", (-5, 3), (22, 7)),
    ("cubic", GREAT, GREAT),
    ("steps", 1, "start"),
    ("steps", 1, "end"),
    ("steps", 1, "both"),
    ("steps", 2, "none"),
    ("steps", 10 ** 50, "none"),
]

SPOILT_LINES = [
    ("linear",),
    ("linear", ()),
    ("linear", None),
    ("linear", "points"),
    ("linear", (0, 1)),
    ("linear", ((0, 1), (0, 1))),
    ("linear", [((0, 1), None)]),
    ("linear", (((0, 1), None),), None),
    ("linear", (((0, 1), None),), ()),
    ("linear", ((0, 1), None)),
    ("linear", ([(0, 1), None],)),
    ("linear", (((0, 1),),)),
    ("linear", (((0, 1), None, None),)),
    ("linear", (((0, 1), (0, 1), (0, 1)),)),
    ("linear", ((),)),
    ("linear", (None,)),
    ("linear", ((None, (0, 1)),)),
    ("linear", ((None, None),)),
    ("linear", (("endless", None),)),
    ("linear", (((0, 1), "endless"),)),
    ("linear", (((0, 1), None), None)),
    ("linear", (((0, 1), None), ((0, 2), None))),
    ("linear", (((0, 1), (2, 2)), ((0, 1), None))),
    ("line", (((0, 1), None),)),
    ("Linear", (((0, 1), None),)),
    (b"linear", (((0, 1), None),)),
    (["linear"], (((0, 1), None),)),
    ["linear", (((0, 1), None),)],
    ((((0, 1), None),), "linear"),
    (((0, 1), None),),
]

SPOILT_CUBICS = [
    ("cubic",),
    ("cubic", (0, 1)),
    ("cubic", ((0, 1), (1, 1))),
    ("cubic", (0, 1), (1, 1), (1, 1)),
    ("cubic", (0, 1), (1, 1), None),
    ("cubic", (0, 1), None),
    ("cubic", None, (0, 1)),
    ("cubic", 0, 1),
    ("cubic", "endless", (0, 1)),
    ("cubic", [0, 1], (1, 1)),
    ("cubic", (0, 1), [1, 1]),
    ("Cubic", (0, 1), (1, 1)),
    ("", (0, 1), (1, 1)),
    (None, (0, 1), (1, 1)),
    ({}, (0, 1), (1, 1)),
    ["cubic", (0, 1), (1, 1)],
]

SPOILT_STEPS = [
    ("steps",),
    ("steps", 3),
    ("steps", 3, "end", None),
    ("steps", 3, "end", False),
    ("steps", "end", 3),
    ("steps", 0, "start"),
    ("steps", 0, "end"),
    ("steps", 0, "both"),
    ("steps", 0, "none"),
    ("steps", 1, "none"),
    ("steps", -1, "end"),
    ("steps", -5, "both"),
    ("steps", True, "end"),
    ("steps", 2.0, "end"),
    ("steps", "2", "end"),
    ("steps", (2, 1), "end"),
    ("steps", None, "end"),
    ("steps", [2], "end"),
    ("steps", 3, "START"),
    ("steps", 3, "ends"),
    ("steps", 3, ""),
    ("steps", 3, "middle"),
    ("steps", 3, b"end"),
    ("steps", 3, None),
    ("steps", 3, True),
    ("steps", 3, ["end"]),
    ("steps", 3, ("end",)),
    ("steps", 3, {}),
    ("step", 3, "end"),
    ["steps", 3, "end"],
]

NO_CURVES = ALL + NEAR_FRACTIONS + SPOILT_LINES + SPOILT_CUBICS + SPOILT_STEPS + [(0, 1), (1, 1), ("linear", "steps")]


class IsCurveTest(unittest.TestCase):
    def test_curves(self):
        for curve in CURVES:
            self.assertIs(is_curve(curve), True)

    def test_no_curves(self):
        for thing in NO_CURVES:
            self.assertIs(is_curve(thing), False, thing)

    def test_each_number_of_a_curve_must_be_a_fraction(self):
        for wrong in NO_FRACTIONS:
            for curve in (
                ("cubic", wrong, (1, 1)),
                ("cubic", (1, 1), wrong),
                ("linear", ((wrong, (0, 1)),)),
                ("linear", ((wrong, None),)),
                ("linear", (((0, 1), None), (wrong, None))),
            ):
                self.assertIs(is_curve(curve), False, curve)

    def test_each_told_input_must_be_a_fraction(self):
        for wrong in NO_FRACTIONS:
            if wrong is None:
                continue
            self.assertIs(is_curve(("linear", (((0, 1), wrong),))), False, wrong)
            self.assertIs(is_curve(("linear", (((0, 1), None), ((0, 1), wrong), ((0, 1), None)))), False, wrong)

    def test_each_count_of_steps_must_be_an_integer(self):
        for wrong in NO_FRACTIONS + [(1, 2)]:
            if isinstance(wrong, int) and not isinstance(wrong, bool):
                continue
            for where in ("start", "end", "none", "both"):
                self.assertIs(is_curve(("steps", wrong, where)), False, wrong)

    def test_each_place_of_steps_must_be_one_of_four_words(self):
        for wrong in NO_FRACTIONS:
            self.assertIs(is_curve(("steps", 3, wrong)), False, wrong)


class WrongArgumentsTest(unittest.TestCase):
    def test_no_curve(self):
        for thing in NO_CURVES:
            with self.assertRaises(NoCurve):
                value_at(thing, (1, 2))
            with self.assertRaises(NoCurve):
                settled(thing)
            with self.assertRaises(NoCurve):
                rises(thing)

    def test_no_number(self):
        for curve in CURVES:
            for wrong in NO_FRACTIONS:
                with self.assertRaises(NoNumber):
                    value_at(curve, wrong)

    def test_no_flag(self):
        for curve in CURVES:
            for wrong in NO_FLAGS:
                with self.assertRaises(NoFlag):
                    value_at(curve, (1, 2), wrong)

    def test_0_and_1_are_no_flags(self):
        for wrong in (0, 1, None, 0.0, "True"):
            with self.assertRaises(NoFlag):
                value_at(("steps", 4, "end"), (1, 2), before=wrong)

    def test_the_first_wrong_argument_counts(self):
        curve = CURVES[0]
        for wrong in ALL:
            with self.assertRaises(NoCurve):
                value_at(wrong, (2, 4), 1)
            with self.assertRaises(NoCurve):
                value_at(wrong, (1, 2), 1)
            with self.assertRaises(NoCurve):
                value_at(wrong, None, True)
            with self.assertRaises(NoNumber):
                value_at(curve, wrong, 1)
            with self.assertRaises(NoNumber):
                value_at(before=[], x=wrong, curve=curve)
            with self.assertRaises(NoCurve):
                value_at(before=[], x=wrong, curve=wrong)


class FractionTest(unittest.TestCase):
    def test_fractions(self):
        one = ("linear", (((7, 1), None),))
        for x in ((0, 1), (1, 1), (-1, 1), (1, 2), (-7, 3), GREAT, (-GREAT[0], GREAT[1]), (1, 10 ** 1999)):
            self.assertEqual(value_at(one, x), (7, 1))

    def test_a_bottom_must_be_at_least_1_and_the_terms_lowest(self):
        one = ("linear", (((7, 1), None),))
        for x in ((0, 2), (2, 4), (1, -2), (1, 0), (0, 0), (0, -1), (10 ** 1999, 10 ** 1999)):
            with self.assertRaises(NoNumber):
                value_at(one, x)

    def test_bools_are_no_integers(self):
        one = ("linear", (((7, 1), None),))
        for x in ((True, 1), (False, 1), (1, True), (True, True), (True, 2)):
            with self.assertRaises(NoNumber):
                value_at(one, x)
