"""The sections "Examples" and "Examples, call by call" of the document."""

import doctest
import unittest

from framecues.stages import replayed
from making import effect, events, frame, lead, n, player, refusal, stage, timing

# Each block of the document; what several blocks share stands here once.
BLOCKS = '''
>>> from framecues.stages import replayed
>>> from framecues.timings import PLAIN
>>> rows = [("effect", "e", "box", PLAIN[:5] + ((10, 1),) + PLAIN[6:], (((0, 1), None, PLAIN[7], (("x", (0, 1)),)), ((1, 1), None, PLAIN[7], (("x", (100, 1)),))), "replace", "anew"), ("clock", "c"), ("player", "p", "e", "c", "plain"), ("play", "p")]
>>> s = replayed(rows)
>>> [s.state("p"), s.time("p"), s.hold("p"), s.pending("p"), s.marks("p")]
['running', (0, 1), (0, 1), 'play', ('open', 'open', 'active')]

>>> s = replayed(rows + [("frame", (("c", (5, 1)),)), ("frame", (("c", (9, 1)),))])
>>> [s.start("p"), s.hold("p"), s.time("p"), s.value("box", "x"), s.next_change("p"), s.notes()]
[(5, 1), None, (4, 1), (40, 1), ((15, 1), 'at'), [('ready', 'p')]]

>>> s = replayed(rows + [("frame", (("c", (5, 1)),)), ("frame", (("c", (9, 1)),)), ("reverse", "p")])
>>> [s.rates("p"), s.pending("p"), s.time("p")]
[((1, 1), (-1, 1)), 'play', (4, 1)]

>>> s = replayed(rows + [("frame", (("c", (5, 1)),)), ("frame", (("c", (9, 1)),)), ("reverse", "p"), ("frame", (("c", (10, 1)),)), ("frame", (("c", (20, 1)),))])
>>> [s.start("p"), s.time("p"), s.state("p"), s.value("box", "x"), s.log()]
[(15, 1), (0, 1), 'finished', (0, 1), [(4, ('finish', 'p', (0, 1), (15, 1)))]]

>>> s = replayed(rows + [("frame", (("c", (5, 1)),)), ("frame", (("c", (9, 1)),)), ("frame", (("c", (17, 1)),))])
>>> t = replayed(rows + [("frame", (("c", (5, 1)),)), ("frame", (("c", (9, 1)),)), ("seek", "p", (30, 1)), ("frame", (("c", (17, 1)),))])
>>> [s.hold("p"), s.state("p"), t.hold("p"), t.state("p"), s.log()]
[(10, 1), 'finished', (30, 1), 'finished', [(3, ('finish', 'p', (10, 1), (15, 1)))]]

>>> s = replayed(rows)
>>> [s.copy() == s, s.rows() == rows, s.stack("box", "x"), s.told("e"), s.full("p")]
[True, True, ['e'], ('active', (0, 1), (0, 1), (0, 1), 0, (0, 1), (0, 1)), (None, (0, 1), (1, 1), None, 'play', (0, 1), 'open', 'open', 0, 'active', 'c', 'e', 'idle', None, None)]

>>> rows = [("clock", "c"), ("frame", (("c", (0, 1)),)), ("transit", "box", "x", "c", (10, 1), (0, 1), PLAIN[7]), ("style", (("box", "x", (100, 1)),)), ("frame", (("c", (4, 1)),)), ("style", (("box", "x", (0, 1)),)), ("frame", (("c", (5, 1)),))]
>>> s = replayed(rows)
>>> [s.value("box", "x"), s.style("box", "x"), s.transition("box", "x"), s.log()]
[(30, 1), (0, 1), (('way', 'box', 'x', 1), None), [(2, ('effect run', ('way', 'box', 'x', 0), (0, 1), (0, 1))), (2, ('effect start', ('way', 'box', 'x', 0), (0, 1), (0, 1))), (3, ('cancel', ('way', 'box', 'x', 0), None, (4, 1))), (3, ('effect run', ('way', 'box', 'x', 1), (0, 1), (4, 1))), (3, ('effect start', ('way', 'box', 'x', 1), (0, 1), (4, 1))), (3, ('effect cancel', ('way', 'box', 'x', 0), (4, 1), (5, 1)))]]

>>> from framecues.curves import rises, settled, value_at
>>> line = ("linear", (((0, 1), None), ((1, 1), (1, 4)), ((1, 2), None), ((1, 1), None)))
>>> [settled(line), value_at(line, (1, 8)), value_at(line, (5, 8)), value_at(line, (-1, 4)), rises(line)]
[('linear', (((0, 1), (0, 1)), ((1, 1), (1, 4)), ((1, 2), (5, 8)), ((1, 1), (1, 1)))), (1, 2), (1, 2), (-1, 1), False]

>>> from framecues.curves import value_at
>>> [value_at(("steps", 4, "end"), (1, 2)), value_at(("steps", 4, "end"), (1, 2), True), value_at(("steps", 4, "both"), (1, 1)), value_at(("steps", 3, "none"), (1, 2)), value_at(("cubic", (0, 1), (1, 1)), (1, 2)), value_at(("cubic", (1, 3), (1, 1)), (2, 1))]
[(1, 2), (1, 4), (1, 1), (1, 2), (1, 2), (1, 1)]

>>> from framecues.timings import PLAIN, edges, told_at
>>> timing = ((1, 1), (0, 1), "forwards", (0, 1), (7, 2), (2, 1), "alternate", PLAIN[7])
>>> [edges(timing), told_at(timing, (4, 1), 1), told_at(timing, (8, 1), 1), told_at(timing, (1, 1), -1)]
[((1, 1), (8, 1), (8, 1)), ('active', (3, 1), (3, 2), (1, 2), 1, (1, 2), (1, 2)), ('after', (7, 1), (7, 2), (1, 2), 3, (1, 2), (1, 2)), ('before', None, None, None, None, None, None)]
'''


class BlocksTest(unittest.TestCase):
    def test_the_blocks_call_by_call(self):
        found = doctest.DocTestParser().get_doctest(BLOCKS, {}, "blocks", None, 0)
        self.assertEqual(len([example for example in found.examples if example.want]), 10)
        told = []
        doctest.DocTestRunner().run(found, out=told.append)
        self.assertEqual(told, [])


class ExamplesTest(unittest.TestCase):
    def setUp(self):
        self.made = stage(effect(), ("clock", "c"), player(), ("play", "p"))

    def test_to_play(self):
        made = self.made
        self.assertEqual([made.state("p"), made.time("p"), made.hold("p"), made.pending("p")], ["running", n(0), n(0), "play"])
        self.assertEqual(made.marks("p"), ("open", "open", "active"))
        lead(made, frame(5))
        self.assertEqual([made.start("p"), made.hold("p"), made.notes(), made.value("box", "x")],
                         [n(5), None, [("ready", "p")], n(0)])
        lead(made, frame(9))
        self.assertEqual([made.time("p"), made.value("box", "x"), made.next_change("p")], [n(4), n(40), (n(15), "at")])

    def test_to_reverse(self):
        made = lead(self.made, frame(5), frame(9), ("reverse", "p"))
        self.assertEqual([made.rates("p"), made.pending("p"), made.time("p")], [(n(1), n(-1)), "play", n(4)])
        lead(made, frame(10))
        self.assertEqual([made.rates("p"), made.start("p"), made.time("p")], [(n(-1), None), n(15), n(5)])
        lead(made, frame(20))
        self.assertEqual([made.time("p"), made.hold("p"), made.state("p")], [n(0), n(0), "finished"])
        self.assertEqual([made.log(), made.value("box", "x"), made.told("e")[0]],
                         [[(4, ("finish", "p", n(0), n(15)))], n(0), "before"])

    def test_to_seek_past_the_end(self):
        made = lead(self.made, frame(5), frame(9), ("seek", "p", n(30)))
        self.assertEqual([made.hold("p"), made.state("p")], [n(30), "finished"])
        self.assertEqual(lead(made, frame(17)).hold("p"), n(30))

    def test_to_go_past_the_end(self):
        made = lead(self.made, frame(5), frame(9))
        self.assertEqual(made.full("p")[5], n(4))
        self.assertEqual(lead(made, frame(17)).hold("p"), n(10))

    def test_a_transition_that_is_turned_back(self):
        to, back = ("style", (("box", "x", n(100)),)), ("style", (("box", "x", n(0)),))
        made = stage(("clock", "c"), frame(0), ("transit", "box", "x", "c", n(10), n(0), timing()[7]), to, frame(4), back)
        self.assertEqual([made.transition("box", "x")[0], made.value("box", "x")], [("way", "box", "x", 1), n(40)])
        self.assertEqual(made.next_change(("way", "box", "x", 1)), (n(8), "at"))
        lead(made, frame(5), to)
        self.assertEqual([made.transition("box", "x")[0], made.value("box", "x")], [("way", "box", "x", 2), n(30)])
        self.assertEqual(made.next_change(("way", "box", "x", 2)), (n(12), "at"))
        self.assertEqual(len(events(made, "cancel")), 1)
        self.assertEqual(refusal(made, frame(4)), "time")
        self.assertTrue(replayed(made.rows()) == made)
