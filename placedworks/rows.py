"""Happenings: what a row of a turn is, of whatever house."""

from placedworks.deeds import is_deed
from placedworks.kinds import LATE, is_within, is_word

FORMS = {
    "rise": ("machine",),
    "fall": ("machine",),
    "cut": ("machine",),
    "join": ("machine",),
    "late": ("machine", "late"),
    "twice": ("machine", "yes"),
    "fail": ("number",),
    "ask": ("word", "word", "many"),
    "write": ("word", "letters"),
    "deed": ("deed",),
    "down": (),
    "up": (),
    "again": (),
}

RANGES = {"late": (0, LATE), "number": (0, 1000000000), "many": (1, 40)}

MOST_LETTERS = 12


def is_happening(thing):
    """Whether a thing, whatever it is, is a happening of a house that has the machine in it."""
    # The first part may be anything, also what no dict can be asked for.
    if not isinstance(thing, tuple) or not thing or not isinstance(thing[0], str):
        return False
    forms = FORMS.get(thing[0])
    if forms is None or len(thing) != len(forms) + 1:
        return False
    return all([fits(form, part) for form, part in zip(forms, thing[1:])])


def fits(form, part):
    """Whether a thing may stand where a happening has a part of this form."""
    if form in RANGES:
        low, high = RANGES[form]
        return is_within(part, low, high)
    if form == "yes":
        return isinstance(part, bool)
    if form == "deed":
        return is_deed(part)
    if form == "letters":
        return are_letters(part)
    return is_word(part)


def are_letters(thing):
    """Whether a thing is a text that may be written to a store."""
    if not isinstance(thing, str) or len(thing) > MOST_LETTERS:
        return False
    return all([" " <= sign <= "~" for sign in thing])


def machine_in(row):
    """The machine that a happening is of, or None."""
    return row[1] if FORMS[row[0]][:1] == ("machine",) else None
