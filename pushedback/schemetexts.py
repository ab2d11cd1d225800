"""Schemes and things written as lines."""

from pushedback.guards import need
from pushedback.kinds import is_number
from pushedback.schemekinds import is_scheme


def is_form(thing):
    """Whether the thing is a thing by form: a number, or a tuple of things by form."""
    if isinstance(thing, tuple):
        return all([is_form(part) for part in thing])
    return is_number(thing)


def form_words(form):
    """The words of a number, of the word of a scheme, or of a tuple of such."""
    if not isinstance(form, tuple):
        return [str(form)]
    words = ["("]
    for part in form:
        words.extend(form_words(part))
    words.append(")")
    return words


def scheme_line(scheme):
    """The scheme's word, then its other elements, tuples with a ( ahead and a ) behind."""
    need(is_scheme(scheme), "scheme")
    # of the whole scheme the outermost two are left away
    return " ".join(form_words(scheme)[1:-1])


def thing_line(thing):
    """A number in decimal; of a tuple its elements with a ( ahead and a ) behind."""
    need(is_form(thing), "thing")
    return " ".join(form_words(thing))
