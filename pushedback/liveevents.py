"""Events of live stacks by form, and logs of them."""

from pushedback.kinds import is_base, is_number, is_row_below
from pushedback.schemekinds import is_scheme
from pushedback.schemetexts import is_form


def is_event(thing):
    """Whether any value is an event by form."""
    if not isinstance(thing, tuple) or len(thing) == 0:
        return False
    word = thing[0]
    if len(thing) == 1:
        return word == "pop"
    if len(thing) == 2:
        if word == "push":
            return is_form(thing[1])
        return word == "change" and is_scheme(thing[1])
    if len(thing) != 3 or not is_base(thing[1]):
        return False
    if word == "feed":
        return is_row_below(thing[1], thing[2])
    return word == "back" and is_number(thing[2])


def is_begin(thing):
    """Whether the thing is the triple with which a log begins."""
    if not isinstance(thing, tuple) or len(thing) != 3:
        return False
    return thing[0] == "begin" and is_number(thing[1]) and is_scheme(thing[2])


def is_log(thing):
    """Whether any value is a log."""
    if not isinstance(thing, tuple) or len(thing) == 0:
        return False
    return is_begin(thing[0]) and all([is_event(part) for part in thing[1:]])
