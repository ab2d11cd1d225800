"""Letters moved to the front, runs of equal letters, rows read by columns, and all of them undone."""

from pushedback.guards import need
from pushedback.kinds import is_number, is_pair, is_positive, is_row, is_row_below


def place_of(front, letter):
    """The place of the letter in the list of all letters, front being those moved, the last one first."""
    if letter in front:
        return front.index(letter)
    # of those not moved the lesser ones are ahead of it
    return letter + len([moved for moved in front if moved > letter])


def letter_at(front, place):
    """The letter at the place in the list of all letters, front being those moved, the last one first."""
    if place < len(front):
        return front[place]
    letter = place - len(front)
    for moved in sorted(front):
        if moved <= letter:
            letter += 1
    return letter


def moved_front(front, letter):
    """The letters moved, the last one first, behind the moving of one more."""
    return [letter] + [moved for moved in front if moved != letter]


def fronts_of(letters, text):
    """For each letter of the text its place in the list of all letters, from which it is moved to the front."""
    need(is_positive(letters), "letters")
    need(is_row_below(letters, text), "text")
    front = []
    places = []
    for letter in text:
        places.append(place_of(front, letter))
        front = moved_front(front, letter)
    return tuple(places)


def text_of_fronts(letters, fronts):
    """The text of which fronts_of gives these places."""
    need(is_positive(letters), "letters")
    need(is_row_below(letters, fronts), "fronts")
    front = []
    text = []
    for place in fronts:
        letter = letter_at(front, place)
        text.append(letter)
        front = moved_front(front, letter)
    return tuple(text)


def is_run(thing):
    """Whether the thing is a pair of a letter and of how often it stands side by side."""
    return is_pair(thing) and is_number(thing[0]) and is_positive(thing[1])


def is_runs(thing):
    """Whether the thing is a tuple of runs, neighbours being of unlike letters."""
    if not isinstance(thing, tuple) or not all([is_run(part) for part in thing]):
        return False
    return all([thing[at][0] != thing[at + 1][0] for at in range(len(thing) - 1)])


def runs_of(text):
    """The pairs of a letter and of how many of it are side by side."""
    need(is_row(text), "text")
    runs = []
    for letter in text:
        if len(runs) > 0 and runs[-1][0] == letter:
            runs[-1] = (letter, runs[-1][1] + 1)
        else:
            runs.append((letter, 1))
    return tuple(runs)


def text_of_runs(runs):
    """The text with these runs."""
    need(is_runs(runs), "runs")
    text = []
    for letter, many in runs:
        text.extend([letter for _ in range(many)])
    return tuple(text)


def column_places(wide, many):
    """The places below many, those of one rest by wide together, lesser rests first."""
    return [place for rest in range(min([wide, many])) for place in range(rest, many, wide)]


def by_columns(wide, digits):
    """The digits whose places have the rest 0 by wide, then those with 1, and so on."""
    need(is_positive(wide), "wide")
    need(is_row(digits), "digits")
    return tuple([digits[place] for place in column_places(wide, len(digits))])


def by_rows(wide, digits):
    """The row of which by_columns gives these digits."""
    need(is_positive(wide), "wide")
    need(is_row(digits), "digits")
    row = [0 for _ in digits]
    for at, place in enumerate(column_places(wide, len(digits))):
        row[place] = digits[at]
    return tuple(row)
