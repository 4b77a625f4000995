"""Objects of many kinds, to be given where they are not allowed."""

import fractions

from framecues import errors


def looped():
    """A list that contains itself."""
    ring = []
    ring.append(ring)
    return ring


class Plain:
    pass


ERRORS = [
    errors.CueError,
    errors.NoCurve,
    errors.NoTiming,
    errors.NoNumber,
    errors.NoSign,
    errors.NoFlag,
    errors.NoRow,
    errors.NoName,
    errors.Refused,
]

# No curves, no fractions, no bools, no integers, no strings, and not None.
OTHERS = [
    0.0,
    0.5,
    float("nan"),
    float("inf"),
    1j,
    b"",
    b"linear",
    bytearray(b"steps"),
    memoryview(b"cubic"),
    [],
    [0, 1],
    [(0, 1)],
    looped(),
    {},
    {"linear": 1},
    set(),
    {0, 1},
    frozenset([1]),
    range(2),
    slice(0, 1),
    iter([0, 1]),
    (k for k in range(2)),
    object(),
    object,
    type,
    int,
    tuple,
    len,
    looped,
    lambda: (0, 1),
    "".join,
    property(looped),
    Ellipsis,
    NotImplemented,
    fractions,
    fractions.Fraction(1, 2),
    Plain(),
    ValueError("linear"),
    errors.Refused("name"),
] + ERRORS + [one("name") for one in ERRORS]

# As above, but also what is of a simpler kind.
ALL = [None, True, False, 0, 1, -1, 7, "", "0", "1/2", "linear", "cubic", "steps", "endless"] + OTHERS

# Tuples that look like fractions but are none.
NEAR_FRACTIONS = [
    (),
    (0,),
    (1,),
    (0, 1, 1),
    (0, 0),
    (1, 0),
    (0, 2),
    (0, -1),
    (1, -1),
    (-1, -2),
    (2, 2),
    (2, 4),
    (-3, 6),
    (True, 1),
    (False, 1),
    (1, True),
    (0, True),
    (0.0, 1),
    (1, 1.0),
    (1.0, 2),
    ("1", 2),
    (1, "2"),
    (None, 1),
    (1, None),
    ((1, 2), 1),
    (1, (1, 2)),
    ([1], 2),
    (1, [2]),
    (1, {}),
    (10 ** 1999, 10 ** 1998),
]

# All that is no fraction.
NO_FRACTIONS = ALL + NEAR_FRACTIONS + [("linear", (((0, 1), None),)), ("cubic", (0, 1), (1, 1))]

# All that is neither True nor False.
NO_FLAGS = [thing for thing in ALL if not isinstance(thing, bool)] + [(), (True,), (0, 1), (1, 1)]
