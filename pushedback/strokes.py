"""Strokes, which write texts anew or by copying, for values that are known to fit."""

from pushedback.powers import power
from pushedback.ratios import NOUGHT, WHOLE, ratio, ratio_product, ratio_sum


def stroke_length(stroke):
    """How many letters the stroke writes."""
    if stroke[0] == "new":
        return len(stroke[1])
    return stroke[2]


def write_stroke(text, stroke):
    """The text with what the stroke writes behind it."""
    if stroke[0] == "new":
        return text + stroke[1]
    distance, length = stroke[1], stroke[2]
    written = list(text)
    for _ in range(length):
        written.append(written[len(written) - distance])
    return tuple(written)


def room_at(most, many, begin):
    """How long a stroke that begins there can be in a text many long."""
    return min([most, many - begin])


def copy_reach(text, begin, distance):
    """How many letters a copy over this distance gets right from there on."""
    reach = 0
    while begin + reach < len(text) and text[begin + reach] == text[begin + reach - distance]:
        reach += 1
    return reach


def strokes_at(most, text, begin):
    """A list of the strokes that write what is next in the text: shorter first, new first, nearer first."""
    reaches = [copy_reach(text, begin, distance) for distance in range(1, begin + 1)]
    strokes = []
    for length in range(1, room_at(most, len(text), begin) + 1):
        strokes.append(("new", text[begin:begin + length]))
        strokes.extend([("copy", at + 1, length) for at in range(begin) if reaches[at] >= length])
    return strokes


def stroke_chance(letters, pair, room, begin, stroke):
    """The chance of a stroke that begins with so many letters there and so much room."""
    bottom = room
    top = 1
    if begin > 0:
        bottom = bottom * (pair[0] + pair[1])
    if stroke[0] == "new":
        if begin > 0:
            top = pair[0]
        return ratio(top, bottom * power(letters, len(stroke[1])))
    return ratio(pair[1], bottom * begin)


def spelling_chance(letters, most, pair, spelling):
    """The product of the strokes' chances."""
    many = sum([stroke_length(stroke) for stroke in spelling])
    begin = 0
    chance = WHOLE
    for stroke in spelling:
        own = stroke_chance(letters, pair, room_at(most, many, begin), begin, stroke)
        chance = ratio_product(chance, own)
        begin = begin + stroke_length(stroke)
    return chance


def stroke_shares(letters, most, pair, text, begin, sums):
    """For each stroke next there its chance times the sum for what is left behind it."""
    room = room_at(most, len(text), begin)
    shares = []
    for stroke in strokes_at(most, text, begin):
        own = stroke_chance(letters, pair, room, begin, stroke)
        shares.append(ratio_product(own, sums[begin + stroke_length(stroke)]))
    return shares


def sums_of_rest(letters, most, pair, text):
    """For each place, the sum of the chances of all rows of strokes that write the text from there."""
    many = len(text)
    sums = [WHOLE for _ in range(many + 1)]
    for begin in range(many - 1, -1, -1):
        total = NOUGHT
        for share in stroke_shares(letters, most, pair, text, begin, sums):
            total = ratio_sum(total, share)
        sums[begin] = total
    return sums
