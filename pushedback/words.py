"""Words of lines: which of them write numbers."""

DIGITS = "0123456789"
# no base and no digit of one needs more
MOST_PLACES = 3
# the most digits of the other numbers in lines
LONGEST = 60


def is_numeral(word):
    """Whether the word writes a number, without a leading zero but 0 itself."""
    if word == "" or not all([sign in DIGITS for sign in word]):
        return False
    return word == "0" or word[0] != "0"


def is_numeral_within(word, low, high):
    """Whether the word writes a number from low to high, which is below a thousand."""
    return is_numeral(word) and len(word) <= MOST_PLACES and low <= int(word) <= high


def is_short_numeral(word):
    """Whether the word writes a number of at most sixty digits."""
    return len(word) <= LONGEST and is_numeral(word)
