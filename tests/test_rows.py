"""[33] and [34]: the forms of rows."""

import inspect
import unittest

from framecues import rows
from framecues.errors import NoRow, Refused
from framecues.rows import is_row
from framecues.stages import Stage, replayed
from making import ONE, RISE, STRAIGHT, n, player, timing
from strange import ALL, NEAR_FRACTIONS, NO_FRACTIONS

WAY = ("way", "box", "x", 0)
RIGHT = [
    ("effect", "e", "box", ONE, RISE, "replace", "anew"),
    ("effect", "abcdefghijkl", "z", timing(None), RISE, "add", "on"),
    ("group", "g", ONE, ("e", "f")),
    ("group", "g", ONE, ()),
    ("sequence", "g", ONE, ("e",)),
    ("sequence", "g", ONE, ()),
    ("retime", "e", ONE),
    ("clock", "c"),
    ("scrolled", "c"),
    ("player", "p", "e", "c", "plain"),
    ("player", "p", None, None, "styled"),
    ("frame", ()),
    ("frame", (("c", (5, 1)), ("d", None))),
    ("settle",),
    ("transit", "box", "x", "c", (10, 1), (-5, 2), STRAIGHT),
    ("transit", "box", "x", "c", (0, 1), (0, 1), ("steps", 1, "end")),
    ("still", "box", "x"),
    ("style", ()),
    ("style", (("box", "x", (-1, 2)), ("box", "y", (0, 1)), ("dot", "x", (1, 1)))),
]
for PLAYER in ("p", WAY, ("way", "a", "b", 10 ** 30)):
    for WORD in ("play", "pause", "reverse", "finish", "cancel", "keep", "commit"):
        RIGHT.append((WORD, PLAYER))
    for WORD in ("seek", "start"):
        RIGHT += [(WORD, PLAYER, (-7, 2)), (WORD, PLAYER, None)]
    for WORD in ("rate", "smooth"):
        RIGHT.append((WORD, PLAYER, (-7, 2)))
    for WORD in ("follow", "use"):
        RIGHT += [(WORD, PLAYER, "c"), (WORD, PLAYER, None)]

NO_NAMES = [thing for thing in ALL if not isinstance(thing, str) and thing is not None] + [
    "", "A", "x1", "abcdefghijklm", "a b", "a_", "\u00e4", "\u017f", "a\n", "x" * 500, ("p",), ("x", "y"), WAY[:3],
]
NO_PLAYERS = NO_NAMES + [
    None, (), ("way",), WAY + (0,), ("Way", "box", "x", 0), ("way", "box", "x", -1), ("way", "box", "x", True),
    ("way", "box", "x", False), ("way", "box", "x", 0.0), ("way", "box", "x", None), ("way", "box", "x", (0, 1)),
    ("way", "Box", "x", 0), ("way", "box", "", 0), ("way", None, "x", 0), ["way", "box", "x", 0],
    (["way"], "box", "x", 0), ("way", ["box"], "x", 0), ("way", "box", {}, 0),
]
NUMBERS = [thing for thing in NO_FRACTIONS if thing is not None] + ["endless"]

# For each word what may not stand in each of its places.
WRONG = {
    "effect": [NO_NAMES + [None], NO_NAMES + [None], ALL + [ONE[:7]], ALL + [(), list(RISE), RISE[0]],
               ALL + ["Add", None], ALL + ["once", None]],
    "group": [NO_NAMES + [None], ALL, ALL + ["ab", ("e", "e"), ("e", None), ("e", "f", "e"), ("E",), (["e"],), ["e"]]],
    "retime": [NO_NAMES + [None], ALL],
    "clock": [NO_NAMES + [None]],
    "player": [NO_NAMES + [None], NO_NAMES, NO_NAMES, ALL + ["style", "way", None]],
    "play": [NO_PLAYERS],
    "seek": [NO_PLAYERS, NUMBERS],
    "rate": [NO_PLAYERS, NUMBERS + [None]],
    "follow": [NO_PLAYERS, NO_NAMES],
    "frame": [ALL + ["c", ("c", (0, 1)), (("c",),), (("c", (0, 1), None),), (("c", "endless"),), (("c", (2, 2)),),
                     ((None, (0, 1)),), (("C", None),), (["c", None],), [("c", None)], (("c", None), ("c", None)),
                     (("c", (0, 1)), ("d", None), ("c", (1, 1))), ((["c"], None),), (WAY,)]],
    "settle": [],
    "transit": [NO_NAMES + [None], NO_NAMES + [None], NO_NAMES + [None], NUMBERS + [None, (-1, 2), (-5, 1)],
                NUMBERS + [None], ALL + [("steps", 0, "end")]],
    "still": [NO_NAMES + [None], NO_NAMES + [None]],
    "style": [ALL + [("box", "x", (0, 1)), (("box", "x"),), (("box", "x", (0, 1), None),), (("box", "x", None),),
                     (("box", "x", (2, 2)),), (("box", "X", (0, 1)),), ((None, "x", (0, 1)),), (["box", "x", (0, 1)],),
                     (("box", "x", (0, 1)), ("box", "x", (1, 1))), [("box", "x", (0, 1))], ((["box"], "x", (0, 1)),)]],
}
ALIKE = {
    "sequence": "group", "scrolled": "clock", "start": "seek", "smooth": "rate", "use": "follow", "pause": "play",
    "reverse": "play", "finish": "play", "cancel": "play", "keep": "play", "commit": "play",
}


def wrong_places(row):
    return WRONG[ALIKE.get(row[0], row[0])]


def spoilt(row):
    """The row with each part spoilt, left out, and one too many."""
    for at, wrong in enumerate(wrong_places(row)):
        for thing in wrong:
            yield row[:at + 1] + (thing,) + row[at + 2:]
    for at in range(len(row)):
        yield row[:at] + row[at + 1:]
    for thing in (None, "p", (0, 1)):
        yield row + (thing,)
    for word in ("Effect", "", "plays", None, 0, ["play"], (), "way", b"play"):
        yield (word,) + row[1:]
    yield list(row)


class IsRowTest(unittest.TestCase):
    def test_each_word_is_tried(self):
        words = {row[0] for row in RIGHT}
        self.assertEqual(words, set(WRONG) | set(ALIKE))
        self.assertEqual(len(words), 25)

    def test_right_rows(self):
        for row in RIGHT:
            self.assertIs(is_row(row), True, row)

    def test_spoilt_rows(self):
        for row in RIGHT:
            for thing in spoilt(row):
                self.assertIs(is_row(thing), False, thing)

    def test_other_things(self):
        for thing in ALL + NEAR_FRACTIONS + [(), "settle", Stage(), Stage, replayed, (Stage(),), ((),)]:
            self.assertIs(is_row(thing), False, thing)

    def test_things_of_the_interface_within_a_row(self):
        for thing in (Stage(), Stage, Refused("name"), is_row):
            for row in RIGHT:
                for at in range(len(row)):
                    self.assertIs(is_row(row[:at] + (thing,) + row[at + 1:]), False)

    def test_tuples_may_be_empty(self):
        for row in (("group", "g", ONE, ()), ("sequence", "g", ONE, ()), ("frame", ()), ("style", ())):
            self.assertIs(is_row(row), True)

    def test_the_interface(self):
        self.assertIs(is_row(thing=("settle",)), True)
        self.assertEqual(str(inspect.signature(is_row)), "(thing)")
        self.assertEqual(rows.is_row.__module__, "framecues.rows")


class DoTest(unittest.TestCase):
    def test_do_takes_what_is_a_row(self):
        for row in RIGHT:
            try:
                self.assertIsNone(Stage().do(row))
            except Refused as refused:
                self.assertEqual(refused.kind, "name")

    def test_do_raises_for_all_others(self):
        made = Stage()
        for row in RIGHT:
            for thing in spoilt(row):
                with self.assertRaises(NoRow):
                    made.do(thing)
        for thing in ALL + NEAR_FRACTIONS + [(), Stage()]:
            with self.assertRaises(NoRow):
                made.do(thing)
        self.assertTrue(made == Stage())
        self.assertEqual(made.rows(), [])

    def test_the_form_comes_ahead_of_what_is_refused(self):
        made = Stage()
        made.do(("clock", "c"))
        for row in (("clock", "c", None), player("p", "none", "none", "none"), ("frame", (("c", 1), ("none", n(1)))),
                    ("seek", "none", 1), ("group", "c", ONE, ("none", "none"))):
            with self.assertRaises(NoRow):
                made.do(row)

    def test_great_things_are_let_through(self):
        digits = (10 ** 2500 + 1, 10 ** 2500)
        made = Stage()
        made.do(("clock", "c"))
        made.do(("frame", (("c", digits),)))
        self.assertEqual(made.now("c"), digits)
        names = [chr(97 + k // 26) + chr(97 + k % 26) for k in range(200)]
        for name in names:
            made.do(("group", name + "g", ONE, () if name == "aa" else (last,)))
            last = name + "g"
        made.do(("player", "p", last, "c", "plain"))
        made.do(("play", "p"))
        self.assertEqual(made.told("aag")[0], "active")

    def test_do_by_name(self):
        made = Stage()
        self.assertIsNone(made.do(row=("clock", "c")))
        self.assertIsNone(made.now("c"))
