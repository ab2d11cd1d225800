"""Texts spelled by strokes, the spelling given back to the stack."""

from pushedback.exchanges import popped_by, pushed_by
from pushedback.guards import need
from pushedback.kinds import is_number, is_pair, is_positive, is_positive_pair, is_row, is_row_below
from pushedback.ratios import lowest_shares
from pushedback.strokes import (
    room_at, spelling_chance, stroke_length, stroke_shares, strokes_at, sums_of_rest, write_stroke,
)

NEW = 0
COPY = 1


def is_new(thing):
    """Whether the thing is a stroke that writes letters anew, of any number of them."""
    return is_pair(thing) and thing[0] == "new" and is_row(thing[1]) and len(thing[1]) > 0


def is_copy(begin, thing):
    """Whether the thing is a stroke that copies, with so many letters there when it begins."""
    if not isinstance(thing, tuple) or len(thing) != 3:
        return False
    word, distance, length = thing
    return word == "copy" and is_positive(distance) and distance <= begin and is_positive(length)


def is_any_spelling(thing):
    """Whether the thing is a spelling over any letters, with strokes of any length."""
    if not isinstance(thing, tuple):
        return False
    begin = 0
    for stroke in thing:
        if not is_new(stroke) and not is_copy(begin, stroke):
            return False
        begin = begin + stroke_length(stroke)
    return True


def is_spelling_by(letters, most, thing):
    """What is_spelling tells, for letters and most that are known to fit."""
    if not is_any_spelling(thing):
        return False
    if not all([stroke_length(stroke) <= most for stroke in thing]):
        return False
    return all([stroke[0] == "copy" or is_row_below(letters, stroke[1]) for stroke in thing])


def need_limits(letters, most):
    """Refuse the first of two parameters that is no integer from 1 on."""
    need(is_positive(letters), "letters")
    need(is_positive(most), "most")


def is_spelling(letters, most, thing):
    """Whether the thing is a spelling over so many letters, none of its strokes longer than most."""
    need_limits(letters, most)
    return is_spelling_by(letters, most, thing)


def text_of_spelling(spelling):
    """The text that the spelling writes."""
    need(is_any_spelling(spelling), "spelling")
    text = ()
    for stroke in spelling:
        text = write_stroke(text, stroke)
    return text


def chance_of_spelling(letters, most, pair, spelling):
    """The product of the chances of the spelling's strokes."""
    need_limits(letters, most)
    need(is_positive_pair(pair), "pair")
    need(is_spelling_by(letters, most, spelling), "spelling")
    return spelling_chance(letters, most, pair, spelling)


def spellings_of(letters, most, text):
    """A list of all spellings that write the text."""
    need_limits(letters, most)
    need(is_row_below(letters, text), "text")
    # at each place the spellings of what stands from there on
    behind = [[()]]
    for begin in range(len(text) - 1, -1, -1):
        here = []
        for stroke in strokes_at(most, text, begin):
            rests = behind[len(text) - begin - stroke_length(stroke)]
            here.extend([(stroke,) + rest for rest in rests])
        behind.append(here)
    return list(behind[len(text)])


def copied_chance(letters, most, pair, text):
    """What chance_copied gives, for parameters that are known to fit."""
    return sums_of_rest(letters, most, pair, text)[0]


def chance_copied(letters, most, pair, text):
    """The sum of the chances of all spellings of the text."""
    need_limits(letters, most)
    need(is_positive_pair(pair), "pair")
    need(is_row_below(letters, text), "text")
    return copied_chance(letters, most, pair, text)


def push_stroke(stack, letters, pair, room, begin, stroke):
    """The stack with the parts of the stroke pushed, the one popped last first."""
    result = stack
    if stroke[0] == "new":
        kind = NEW
        for letter in stroke[1][::-1]:
            result = letters * result + letter
    else:
        kind = COPY
        result = begin * result + stroke[1] - 1
    if begin > 0:
        result = pushed_by(result, pair, kind)
    return room * result + stroke_length(stroke) - 1


def pop_stroke(stack, letters, pair, room, begin):
    """A stroke for so much room, and the stack that is left."""
    length = stack % room + 1
    left = stack // room
    kind = NEW
    if begin > 0:
        kind, left = popped_by(left, pair)
    if kind == COPY:
        return ("copy", left % begin + 1, length), left // begin
    text = []
    for _ in range(length):
        text.append(left % letters)
        left = left // letters
    return ("new", tuple(text)), left


def stroke_tables(letters, most, pair, text):
    """For each place of the text the table of the strokes that can be next there."""
    sums = sums_of_rest(letters, most, pair, text)
    return [lowest_shares(stroke_shares(letters, most, pair, text, begin, sums)) for begin in range(len(text))]


def popped_spelling(stack, letters, most, pair, text):
    """A spelling of the text popped by its tables, and the stack that is left."""
    tables = stroke_tables(letters, most, pair, text)
    spelling = []
    begin = 0
    left = stack
    while begin < len(text):
        place, left = popped_by(left, tables[begin])
        stroke = strokes_at(most, text, begin)[place]
        spelling.append(stroke)
        begin = begin + stroke_length(stroke)
    return tuple(spelling), left


def pushed_spelling(stack, letters, most, pair, text, spelling):
    """The stack with the spelling of the text pushed by its tables, the last stroke first."""
    tables = stroke_tables(letters, most, pair, text)
    begin = len(text)
    result = stack
    for stroke in spelling[::-1]:
        begin = begin - stroke_length(stroke)
        place = strokes_at(most, text, begin).index(stroke)
        result = pushed_by(result, tables[begin], place)
    return result


def push_copied(stack, letters, most, pair, text):
    """The stack with the text pushed, its spelling popped on the way."""
    need(is_number(stack), "stack")
    need_limits(letters, most)
    need(is_positive_pair(pair), "pair")
    need(is_row_below(letters, text), "text")
    many = len(text)
    spelling, result = popped_spelling(stack, letters, most, pair, text)
    begin = many
    for stroke in spelling[::-1]:
        begin = begin - stroke_length(stroke)
        result = push_stroke(result, letters, pair, room_at(most, many, begin), begin, stroke)
    return result


def pop_copied(stack, letters, most, pair, many):
    """A text of many letters, its spelling pushed back, and the stack that is left."""
    need(is_number(stack), "stack")
    need_limits(letters, most)
    need(is_positive_pair(pair), "pair")
    need(is_number(many), "many")
    text = ()
    spelling = []
    left = stack
    while len(text) < many:
        begin = len(text)
        stroke, left = pop_stroke(left, letters, pair, room_at(most, many, begin), begin)
        spelling.append(stroke)
        text = write_stroke(text, stroke)
    return text, pushed_spelling(left, letters, most, pair, text, spelling)
