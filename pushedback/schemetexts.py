"""Schemes and things written as lines."""

from pushedback.guards import need
from pushedback.kinds import is_number
from pushedback.schemekinds import is_scheme


def is_form(thing):
    """Whether the thing is a thing by form: a number, or a tuple of things by form."""
    # one by one, since what a line writes may be nested deeper than calls can be
    waiting = [thing]
    while len(waiting) > 0:
        part = waiting.pop()
        if isinstance(part, tuple):
            waiting.extend(part)
        elif not is_number(part):
            return False
    return True


def form_words(form):
    """The words of a number, of the word of a scheme, or of a tuple of such."""
    words = []
    waiting = [form]
    while len(waiting) > 0:
        part = waiting.pop()
        if isinstance(part, tuple):
            words.append("(")
            # the end of the tuple waits behind its parts, the first one of which comes next
            waiting.append(")")
            waiting.extend(part[::-1])
        else:
            words.append(str(part))
    return words


def scheme_line(scheme):
    """The scheme's word, then its other elements, tuples with a ( ahead and a ) behind."""
    need(is_scheme(scheme), "scheme")
    # of the whole scheme the outermost two are left away
    return " ".join(form_words(scheme)[1:-1])


def thing_line(thing):
    """A number in decimal; of a tuple its elements with a ( ahead and a ) behind."""
    need(is_form(thing), "thing")
    return " ".join(form_words(thing))
