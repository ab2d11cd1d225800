"""How the tests ask for what is refused: each wrong value alone, and two wrong ones at once."""

from pushedback.errors import NotUsable

# values that are no number, no tuple of anything and no string that is asked for
NO_NUMBER = (True, False, None, "3", "", -1, -10 ** 60, [3], (3,), ())
NO_INTEGER = (True, False, None, "3", "", [3], (3,), ())
NO_POSITIVE = NO_NUMBER + (0,)
NO_BASE = NO_NUMBER + (0, 1, 257, 10 ** 60)
NO_TUPLE = (True, None, "0", 3, 0, [], [0], [0, 1])
NO_QUOTIENT = NO_TUPLE + ((), (1,), (1, 2, 3), (2, 4), (0, 2), (1, 0), (1, -1), (True, 1), (1, True), ("1", 2), [1, 2])
NO_TABLE = NO_TUPLE + ((), (0,), (0, 0), (1, -1), (True, 1), (1, None), ("1",), ((1,),), ([1],))
NO_STRIP = NO_TUPLE + ((), (-1,), (0, True), (None,), ("0",), ((0,),))
NO_ROW = NO_TUPLE + ((-1,), (True,), (0, None), ("0",), ((),), ([0],))
NO_LEARNER = NO_TUPLE + (
    (), (1,), (1, (1, 1), 1), (True, (1, 1)), (-1, (1, 1)), (1, (0, 0)), (1, ()), (1, [1, 1]), [1, (1, 1)],
    (1, (1, True)), ((1, 1), 1),
)
NO_STRING = (True, None, 0, 3, (), ("stack",), ["stack 2"], [])


def settled(result):
    """The result, a generator's results being asked for."""
    if hasattr(result, "__next__"):
        return list(result)
    return result


def refused_word(function, *args, **named):
    """The word of the NotUsable that the call raises, None if it raises none."""
    try:
        settled(function(*args, **named))
    except NotUsable as error:
        if error.at != -1:
            return ("at", error.at)
        return error.word
    return None


def check_refusals(case, function, good, wrong):
    """Each parameter with each wrong value, alone and with a later one, by position and by name."""
    names = list(good)
    settled(function(*good.values()))
    settled(function(**good))
    case.assertEqual(list(wrong), [name for name in names if name in wrong], "the names as they stand")
    for place, name in enumerate(names):
        for value in wrong.get(name, ()):
            check_word(case, function, dict(good, **{name: value}), name)
            for later in names[place + 1:]:
                for second in wrong.get(later, ())[:4]:
                    check_word(case, function, dict(good, **{name: value, later: second}), name)


def check_word(case, function, given, name):
    """The call is refused for the parameter of this name, by position and by name."""
    case.assertEqual(refused_word(function, *given.values()), name, (function.__name__, given))
    case.assertEqual(refused_word(function, **given), name, (function.__name__, given))
