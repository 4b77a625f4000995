"""[7] and [8]: the values that keyframes have along the progress of an effect."""

import itertools
import unittest
from fractions import Fraction

from framecues.keyframes import is_keyframes, settled_offsets
from making import RISE, STRAIGHT, effect, frame, keys, n, player, stage, timing
from model import effect_value, read
from strange import ALL, NO_FRACTIONS

HALF = Fraction(1, 2)
LATE = ("steps", 1, "end")


def one(offset, value, mode=None, curve=STRAIGHT, name="x"):
    """A keyframe with one property."""
    return (n(offset), mode, curve, ((name, n(value)),))


def beyond(progress):
    """A curve that leads to this progress everywhere."""
    return ("linear", ((n(progress), None),))


def value(frames, progress, beneath=0, mode="replace", going="anew", iteration=0, name="x"):
    """The value of an effect at a progress and an iteration, over a style."""
    time = timing(1, first=iteration, times=1, curve=beyond(progress))
    made = stage(
        effect(time=time, frames=tuple(frames), mode=mode, going=going),
        ("clock", "c"),
        player(),
        ("style", (("box", name, n(beneath)),)),
        ("play", "p"),
        frame(0),
    )
    return made.value("box", name)


class IsKeyframesTest(unittest.TestCase):
    def test_keyframes(self):
        for thing in (
            RISE,
            (one(None, 1),),
            (one(0, 1),),
            (one(1, 1), one(1, 2)),
            (one(HALF, 1), one(None, 2), one(HALF, 3), one(None, 4)),
            (one(1, 1), one(None, 1), one(None, 2)),
            ((n(0), "add", LATE, (("x", n(1)), ("y", n(1)))),),
        ):
            self.assertIs(is_keyframes(thing), True, thing)

    def test_other_things(self):
        for thing in ALL + [(), [one(0, 1)], one(0, 1), (one(0, 1), None), (one(0, 1)[:3],), (one(0, 1) + (None,),)]:
            self.assertIs(is_keyframes(thing), False, thing)

    def test_offsets_go_from_0_to_1(self):
        for wrong in NO_FRACTIONS + ["endless", (-1, 2), (3, 2), (2, 1)]:
            if wrong is not None:
                self.assertIs(is_keyframes(((wrong,) + one(0, 1)[1:],)), False, wrong)

    def test_told_offsets_do_not_fall(self):
        self.assertIs(is_keyframes((one(HALF, 1), one(Fraction(1, 3), 1))), False)
        self.assertIs(is_keyframes((one(HALF, 1), one(None, 1), one(0, 1))), False)
        self.assertIs(is_keyframes((one(None, 1), one(1, 1), one(HALF, 1), one(None, 1))), False)

    def test_the_other_parts(self):
        for wrong in ALL:
            if wrong is not None:
                self.assertIs(is_keyframes(((n(0), wrong) + one(0, 1)[2:],)), False, wrong)
            self.assertIs(is_keyframes(((n(0), None, wrong, one(0, 1)[3]),)), False, wrong)
            self.assertIs(is_keyframes(((n(0), None, STRAIGHT, wrong),)), False, wrong)
        self.assertIs(is_keyframes(((n(0), "anew", STRAIGHT, one(0, 1)[3]),)), False)

    def test_pairs(self):
        for pairs in (
            (),
            [("x", n(1))],
            (("x", n(1)), ("x", n(1))),
            (("x", n(1)), ("y", n(1)), ("x", n(2))),
            (("x", 1),),
            (("X", n(1)),),
            (("", n(1)),),
            (("x", None),),
            (("x", "endless"),),
            (("x",),),
            (("x", n(1), n(1)),),
            (["x", n(1)],),
            ("x", n(1)),
        ):
            self.assertIs(is_keyframes(((n(0), None, STRAIGHT, pairs),)), False, pairs)
        for wrong in NO_FRACTIONS:
            self.assertIs(is_keyframes(((n(0), None, STRAIGHT, (("x", wrong),)),)), False, wrong)


class OffsetsTest(unittest.TestCase):
    def check(self, offsets, wanted):
        frames = tuple(one(offset, 1) for offset in offsets)
        self.assertEqual(settled_offsets(frames), [n(offset) for offset in wanted])

    def test_told(self):
        self.check([0, HALF, 1], [0, HALF, 1])
        self.check([Fraction(1, 3), Fraction(1, 3)], [Fraction(1, 3), Fraction(1, 3)])

    def test_the_ends(self):
        self.check([None, None], [0, 1])
        self.check([None, HALF], [0, HALF])
        self.check([HALF, None], [HALF, 1])

    def test_a_single_one_is_1(self):
        self.check([None], [1])
        self.check([HALF], [HALF])

    def test_runs_are_spread(self):
        self.check([None, None, None], [0, HALF, 1])
        self.check([HALF, None, None], [HALF, Fraction(3, 4), 1])
        self.check([None, None, Fraction(2, 3), None, None, 1], [0, Fraction(1, 3), Fraction(2, 3), Fraction(7, 9),
                                                                Fraction(8, 9), 1])
        self.check([1, None, None], [1, 1, 1])

    def test_values_at_settled_offsets(self):
        frames = [one(None, 0), one(None, 10), one(Fraction(3, 4), 40), one(None, 0)]
        for progress, wanted in ((Fraction(3, 8), 10), (Fraction(3, 16), 5), (Fraction(3, 4), 40), (Fraction(7, 8), 20)):
            self.assertEqual(value(frames, progress), n(wanted))


class ValueTest(unittest.TestCase):
    def check(self, frames, pairs, **parts):
        for progress, wanted in pairs:
            self.assertEqual(value(frames, progress, **parts), n(wanted), (progress, parts))

    def test_between_two(self):
        self.check(keys(10, 30), [(0, 10), (HALF, 20), (1, 30)])

    def test_below_0_and_beyond_1_the_line_goes_on(self):
        self.check(keys(10, 30), [(-1, -10), (2, 50)])
        self.check(keys(0, 10, 30), [(-1, -20), (Fraction(3, 2), 50)])

    def test_below_0_the_first_of_several_stands_alone(self):
        frames = [one(0, 7), one(0, 9), one(0, 10), one(1, 20)]
        self.check(frames, [(-1, 7), (Fraction(-1, 9), 7), (0, 10), (HALF, 15)])

    def test_from_1_on_the_last_of_several_stands_alone(self):
        frames = [one(0, 10), one(1, 20), one(1, 9), one(1, 7)]
        self.check(frames, [(HALF, 15), (1, 7), (2, 7), (-1, 0)])

    def test_several_at_one_offset_between(self):
        frames = [one(0, 0), one(HALF, 10), one(HALF, 99), one(HALF, 20), one(1, 40)]
        self.check(frames, [(Fraction(1, 4), 5), (HALF, 20), (Fraction(3, 4), 30), (1, 40)])

    def test_several_at_both_ends(self):
        frames = [one(0, 1), one(0, 2), one(1, 4), one(1, 8)]
        self.check(frames, [(-1, 1), (0, 2), (HALF, 3), (1, 8), (2, 8)])

    def test_none_at_0_or_1(self):
        frames = [one(HALF, 10)]
        self.check(frames, [(0, 4), (Fraction(1, 4), 7), (HALF, 10), (Fraction(3, 4), 7), (1, 4)], beneath=4)
        self.check([one(None, 10)], [(0, 4), (HALF, 7), (1, 10), (2, 16)], beneath=4)
        self.check([one(0, 10)], [(0, 10), (HALF, 7), (1, 4)], beneath=4)

    def test_a_property_that_only_some_frames_have(self):
        both = (n(HALF), None, STRAIGHT, (("x", n(10)), ("y", n(50))))
        frames = [one(0, 0), both, one(1, 40, name="y")]
        self.check(frames, [(0, 0), (Fraction(1, 4), 5), (HALF, 10), (Fraction(3, 4), 7), (1, 4)], beneath=4)
        self.check(frames, [(0, 4), (Fraction(1, 4), 27), (HALF, 50), (1, 40)], beneath=4, name="y")

    def test_the_curve_of_the_first_of_the_two(self):
        frames = [one(0, 0, curve=LATE), one(HALF, 10), one(1, 20, curve=LATE)]
        self.check(frames, [(Fraction(1, 4), 0), (Fraction(49, 100), 0), (HALF, 10), (Fraction(3, 4), 15)])

    def test_the_flag_is_not_set_for_the_curve(self):
        frames = [one(0, 0, curve=("steps", 2, "end")), one(1, 10)]
        self.check(frames, [(HALF, 5), (1, 10), (0, 0)])

    def test_replace_and_add(self):
        self.check(keys(10, 30), [(HALF, 20)], beneath=4)
        self.check(keys(10, 30), [(HALF, 24)], beneath=4, mode="add")
        self.check(keys(10, 30, mode="add"), [(HALF, 24)], beneath=4)
        self.check(keys(10, 30, mode="replace"), [(HALF, 20)], beneath=4, mode="add")
        self.check([one(0, 10, "add"), one(1, 30)], [(0, 14), (HALF, 22), (1, 30)], beneath=4)
        self.check([one(0, 10), one(1, 30, "replace")], [(0, 14), (HALF, 22), (1, 30)], beneath=4, mode="add")
        self.check([one(0, 1, "add"), one(0, 2), one(1, 3), one(1, 4, "add")], [(-1, 5), (0, 2), (1, 8)], beneath=4)

    def test_what_lies_beneath_matters_if_an_end_that_adds_has_a_weight(self):
        frames = [one(0, 10, "add"), one(1, 30)]
        for progress in (0, HALF, 2):
            self.assertNotEqual(value(frames, progress, 4), value(frames, progress, 5))
        self.assertEqual(value(frames, 1, 4), value(frames, 1, 5))
        self.assertEqual(value([one(HALF, 10)], HALF, 4), value([one(HALF, 10)], HALF, 5))

    def test_going_on(self):
        frames = keys(10, 30)
        self.check(frames, [(0, 10), (HALF, 20)], going="on")
        self.check(frames, [(0, 70), (HALF, 80), (1, 90)], going="on", iteration=2)
        self.check(frames, [(0, 10), (HALF, 20)], going="anew", iteration=2)
        self.check(frames, [(HALF, 84)], going="on", iteration=2, mode="add", beneath=4)

    def test_the_ends_that_were_put_in_go_on_too(self):
        self.check([one(None, 10)], [(0, 34), (HALF, 37), (1, 40)], going="on", iteration=3, beneath=4)

    def test_without_a_frame_at_1_nothing_is_added(self):
        self.check([one(0, 10)], [(0, 10), (HALF, 7)], going="on", iteration=3, beneath=4)
        self.check([one(HALF, 10)], [(HALF, 10)], going="on", iteration=3, beneath=4)

    def test_the_last_of_several_at_1_tells_how_much_is_added(self):
        self.check([one(0, 10), one(1, 5), one(1, 7)], [(0, 24), (1, 21)], going="on", iteration=2)

    def test_an_endless_iteration_adds_nothing(self):
        time = timing(0, times="endless", first=HALF, fill="both")
        made = stage(effect(time=time, going="on"), ("clock", "c"), player(), ("play", "p"), frame(0), frame(5))
        self.assertEqual(made.told("e")[4], "endless")
        self.assertEqual(made.value("box", "x"), n(50))

    def test_all_short_keyframes_as_the_document_says(self):
        places = (None, 0, HALF, 1)
        for length in (1, 2, 3):
            for offsets in itertools.product(places, repeat=length):
                frames = []
                for at, offset in enumerate(offsets):
                    frames.append(one(offset, 3 ** at, (None, "add", "replace")[at]))
                if not is_keyframes(tuple(frames)):
                    continue
                row = effect(frames=tuple(frames), mode="add", going="on")
                for progress in (-1, 0, Fraction(1, 3), HALF, 1, 2):
                    wanted = effect_value(row, "x", Fraction(progress), 2, Fraction(4))
                    found = value(frames, progress, 4, "add", "on", 2)
                    self.assertEqual(read(found), wanted, (offsets, progress))
