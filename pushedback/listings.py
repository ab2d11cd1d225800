"""Listings of all rows, sets, orders and texts of a kind."""


def rows_over(parts, many):
    """All rows of many of the parts, ascending by the places of the parts; parts is a list, not empty."""
    places = [0 for _ in range(many)]
    last = len(parts) - 1
    while True:
        yield tuple([parts[place] for place in places])
        at = many - 1
        while at >= 0 and places[at] == last:
            places[at] = 0
            at -= 1
        if at < 0:
            return
        places[at] += 1


def texts_over(letters, many):
    """A list of all texts of many of the letters."""
    texts = [()]
    for _ in range(many):
        texts = [text + (letter,) for text in texts for letter in letters]
    return texts


def bags_over(letters, many):
    """A list of all texts of many of the letters in ascending order; so are the letters."""
    bags = [()]
    for _ in range(many):
        bags = [bag + (letter,) for bag in bags for letter in letters if len(bag) == 0 or bag[-1] <= letter]
    return bags


def sets_below(many, few):
    """A list of all sets of few of the numbers below many."""
    sets = [()]
    for size in range(few):
        # only numbers behind which enough are left
        end = many - few + size + 1
        sets = [one + (number,) for one in sets for number in range(next_number(one), end)]
    return sets


def next_number(row):
    """The number behind the last one of an ascending row, 0 behind none."""
    if len(row) == 0:
        return 0
    return row[-1] + 1


def orders_below(many):
    """A list of all orders of the numbers below many."""
    orders = [()]
    for number in range(many):
        orders = [one[:at] + (number,) + one[at:] for one in orders for at in range(number + 1)]
    return orders


def rows_across(lists):
    """A list of all tuples with one part of each of the lists, in their order."""
    rows = [()]
    for parts in lists:
        rows = [row + (part,) for row in rows for part in parts]
    return rows
