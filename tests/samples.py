"""Things that several tests hand in: halls, and plain things that are of no asked kind."""

HALF = (1, 2)

ONE_SERVER = ((1, 3), (((1, 2), 3),), False)
ONE_MOVED = ((1, 3), (((1, 2), 6),), True)
TWO_ALIKE = ((1, 2), (((1, 4), 2), ((1, 4), 2)), False)
TWO_MOVED = ((1, 2), (((1, 4), 3), ((1, 4), 3)), True)
TWO_UNLIKE = ((1, 5), (((1, 2), 1), ((3, 10), 6)), False)
THREE_ALIKE = ((2, 5), (((1, 5), 2),) * 3, False)
THREE_UNLIKE = ((1, 7), (((2, 7), 2), ((1, 7), 1), ((3, 14), 3)), True)
FOUR_ALIKE = ((1, 9), (((2, 9), 1),) * 4, True)
FOUR_UNLIKE = (
    (1, 10000),
    (((1, 10), 1), ((1, 5), 2), ((3, 10), 1), ((3, 10), 2)),
    False,
)

HALLS = (
    ONE_SERVER, ONE_MOVED, TWO_ALIKE, TWO_MOVED, TWO_UNLIKE,
    THREE_ALIKE, THREE_UNLIKE, FOUR_ALIKE, FOUR_UNLIKE,
)


def nested(depth):
    """A plain thing with so many tuples within one another."""
    thing = 1
    for _ in range(depth):
        thing = (thing,)
    return thing


ODD_THINGS = (
    None, True, False, 0, 1, -1, 10 ** 40 - 1, "", "a", "random", "still", "(1, 2)",
    [], [1, 2], (), (1,), ("",), (None,), {}, {0: 1, 1: 2}, {"random": True},
    (1, 2, 3, 4), ((), ()), ([], []), ({}, {}), nested(90), [[[[]]]],
)
