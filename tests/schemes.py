"""Schemes of all twelve words, and values that are nearly schemes, for the tests."""

LEARNER = (2, (1, 1))
GAPPED = (1, (2, 0, 1))
TALL = ((), ((), ()))
COIN, BENT = ("table", (1, 1)), ("table", (3, 1))
EITHER = ("hidden", (1, 1), (COIN, BENT))

PLAIN = (
    ("even", 1), ("even", 6), ("table", (2, 0, 1)), ("table", (0, 5)),
    ("set", 0, 0), ("set", 5, 2), ("set", 4, 4), ("set", 4, 0), ("order", 0), ("order", 1), ("order", 4),
    ("copies", 1, 1, (1, 1), 0), ("copies", 2, 2, (1, 3), 4), ("copies", 3, 9, (2, 1), 3),
    ("learned", LEARNER, 0), ("learned", LEARNER, 3), ("learned", GAPPED, 3), ("learned", (1, (4,)), 3),
    ("treed", LEARNER, (), (), 3), ("treed", LEARNER, TALL, (0, 1), 3), ("treed", GAPPED, ((), (), ()), (1,), 3),
    ("mixed", (LEARNER, 1, (1, 2)), (1,), 3), ("mixed", (GAPPED, 1, (1, 3)), (1,), 2),
    ("mixed", (LEARNER, 0, (0, 1)), (), 2), ("mixed", (LEARNER, 2, (0, 1)), (0, 0), 3),
    ("bag", LEARNER, 0), ("bag", LEARNER, 3), ("bag", GAPPED, 4), ("bag", (1, (4,)), 2),
)
TWO_LEVELS = (
    ("row", (("even", 2), ("table", (0, 1)))),
    ("row", (("set", 3, 1), ("bag", LEARNER, 2), ("even", 1))),
    ("choice", (1, 0, 2), (COIN, BENT, ("even", 3))),
    ("choice", (0, 4), (("even", 999999), ("order", 2))),
    EITHER,
    ("hidden", (1, 0, 3), (COIN, ("even", 999999), ("even", 3))),
    ("hidden", (1, 2, 1), (("even", 2), ("learned", LEARNER, 2), ("copies", 2, 1, (1, 1), 2))),
    ("hidden", (2, 1), (("row", ()), ("learned", LEARNER, 0))),
)
MORE_LEVELS = (
    ("row", (EITHER, ("row", ()), ("choice", (1, 1), (EITHER, COIN)))),
    ("hidden", (1, 3), (EITHER, ("hidden", (1, 1), (BENT, ("even", 3))))),
    ("hidden", (1, 1), (("row", (EITHER, COIN)), ("learned", LEARNER, 2))),
    ("choice", (1, 2), (("row", (("row", (EITHER, EITHER)),)), ("hidden", (1, 1), (EITHER, ("even", 2))))),
)
# each scheme with how many levels it has
LEVELS = (
    (("row", ()), 1), (("row", (("row", ()),)), 2), (("row", (("even", 1), ("row", (COIN,)))), 3), (EITHER, 2),
    (("choice", (1, 0), (COIN, ("row", (EITHER,)))), 4), (("hidden", (0, 1), (EITHER, COIN)), 3),
    (MORE_LEVELS[0], 4), (MORE_LEVELS[1], 3), (MORE_LEVELS[2], 4), (MORE_LEVELS[3], 5),
) + tuple((scheme, 1) for scheme in PLAIN) + tuple((scheme, 2) for scheme in TWO_LEVELS)
SCHEMES = PLAIN + TWO_LEVELS + MORE_LEVELS + (("row", ()),)

NEARLY = (
    (), ("even",), ("even", 0), ("even", -1), ("even", True), ("even", None), ("even", "6"), ("even", 6, 6),
    ("even", (6,)), ["even", 6], ("Even", 6), (True, 6), (None, 6), ((), 6), (["even"], 6), ("even ", 6), "even",
    ("table",), ("table", ()), ("table", (0, 0)), ("table", [1]), ("table", (1, True)), ("table", (1,), (1,)),
    ("table", 1), ("row",), ("row", COIN), ("row", [COIN]), ("row", (COIN,), (COIN,)), ("row", (COIN, None)),
    ("row", (("even", 0),)), ("row", COIN, COIN), ("row", None), ("row", ((),)), ("row", (1,)),
    ("choice", (1, 1)), ("choice", (1, 1), (COIN,)), ("choice", (1, 1), (COIN, BENT, COIN)), ("choice", (), ()),
    ("choice", (0, 0), (COIN, BENT)), ("choice", (1, 0), (COIN, ("even", 0))), ("choice", [1, 1], (COIN, BENT)),
    ("choice", (1, 1), [COIN, BENT]), ("choice", (1, True), (COIN, BENT)), ("choice", (COIN, BENT), (1, 1)),
    ("hidden", (1, 1)), ("hidden", (1,), (COIN, BENT)), ("hidden", (1, 1), (COIN, 1)), ("hidden", (0,), (COIN,)),
    ("hidden", (1, 1), (COIN, BENT), 0), ("hidden", (0, 1), (("even", True), BENT)),
    ("learned", LEARNER), ("learned", LEARNER, -1), ("learned", LEARNER, True), ("learned", (2, (0, 0)), 3),
    ("learned", LEARNER, 3, 3), ("learned", (True, (1, 1)), 3), ("learned", [2, (1, 1)], 3), ("learned", 3, LEARNER),
    ("treed", LEARNER, (), 3), ("treed", LEARNER, (), (0,), 3), ("treed", LEARNER, TALL, (0,), 3),
    ("treed", LEARNER, ((),), (0,), 3), ("treed", LEARNER, ((), (), ()), (0,), 3), ("treed", LEARNER, TALL, (0, 2), 3),
    ("treed", LEARNER, TALL, [0, 1], 3), ("treed", LEARNER, TALL, (0, True), 3), ("treed", LEARNER, TALL, (0, 1), None),
    ("treed", LEARNER, None, (), 3), ("treed", LEARNER, (), (), -1), ("treed", (0, ()), (), (), 1),
    ("mixed", (LEARNER, 1, (1, 2)), 3), ("mixed", (LEARNER, 1, (1, 2)), (), 3), ("mixed", LEARNER, (), 3),
    ("mixed", (LEARNER, 1, (3, 2)), (1,), 3), ("mixed", (LEARNER, 1, (2, 4)), (1,), 3),
    ("mixed", (LEARNER, 1, (1, 2)), (2,), 3), ("mixed", (LEARNER, 1, (1, 2)), (1, 1), 3),
    ("mixed", (LEARNER, 1, (1, 2)), (1,), False), ("mixed", (LEARNER, True, (1, 2)), (1,), 3),
    ("mixed", (LEARNER, 1, (1, 2)), [1], 3), ("mixed", (LEARNER, 1, (1, 2)), (1,), 3, 3),
    ("bag", LEARNER), ("bag", LEARNER, -1), ("bag", LEARNER, False), ("bag", (1, ()), 2), ("bag", LEARNER, 2, 2),
    ("set", 4), ("set", 4, 5), ("set", -1, 0), ("set", True, 1), ("set", 4, True), ("set", 4, -1), ("set", 4, 2, 0),
    ("order",), ("order", -1), ("order", True), ("order", (0, 1)), ("order", 3, 3),
    ("copies", 2, 2, (1, 1)), ("copies", 0, 2, (1, 1), 4), ("copies", 2, 0, (1, 1), 4), ("copies", 2, 2, (0, 1), 4),
    ("copies", 2, 2, (1, 0), 4), ("copies", 2, 2, (1, 1, 1), 4), ("copies", 2, 2, [1, 1], 4),
    ("copies", 2, 2, (True, 1), 4), ("copies", 2, 2, (1, 1), -1), ("copies", True, 2, (1, 1), 4),
    ("copies", 2, True, (1, 1), 4), ("copies", 2, 2, (1, 1), True), ("copies", 2, 2, (1, 1), 4, 4),
    ("copies", 2, 2, 1, 4),
)
NO_SCHEME = (None, True, 0, 7, "", "order", [], [COIN], ["even", 6]) + NEARLY
