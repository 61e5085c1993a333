"""Whole numbers and words, and the numbers that the whole program goes by."""

LATE = 2
QUIET = 3
LEASE = 6
DAY = 12

LONGEST_WORD = 8


def is_whole(thing):
    """Whether a thing is a whole number, which a truth is not."""
    return isinstance(thing, int) and not isinstance(thing, bool)


def is_within(thing, low, high):
    """Whether a thing is a whole number from low to high."""
    return is_whole(thing) and low <= thing <= high


def is_word(thing):
    """Whether a thing is a text of one to eight small letters a to z."""
    if not isinstance(thing, str) or not 1 <= len(thing) <= LONGEST_WORD:
        return False
    return all(["a" <= sign <= "z" for sign in thing])
