"""What a deed is."""

from placedworks.kinds import is_within, is_word

PARTS = {
    "group": ("word", "share"),
    "wish": ("word", "word", "copies", "keep", "start", "hands"),
    "copies": ("word", "copies", "keep"),
    "edition": ("word", "start", "hands"),
    "back": ("word",),
    "rank": ("word", "place"),
    "store": ("word", "word"),
    "door": ("word", "word"),
    "rule": ("word", "word", "asks", "copies", "keep"),
    "empty": ("word",),
    "fill": ("word",),
    "end": ("sort", "word"),
}

BOUNDS = {
    "share": (1, 9),
    "copies": (0, 6),
    "keep": (0, 5),
    "start": (0, 2),
    "hands": (1, 3),
    "place": (0, 7),
    "asks": (1, 20),
}

ENDING_SORTS = ("wish", "store", "door", "rule")


def is_deed(thing):
    """Whether a thing, whatever it is, is a deed."""
    # The first part may be anything, also what no dict can be asked for.
    if not isinstance(thing, tuple) or not thing or not isinstance(thing[0], str):
        return False
    forms = PARTS.get(thing[0])
    if forms is None or len(thing) != len(forms) + 1:
        return False
    for form, part in zip(forms, thing[1:]):
        if not is_part(form, part):
            return False
    return "keep" not in forms or keep_fits(forms, thing)


def is_part(form, part):
    """Whether a thing may stand where a deed has a part of this form."""
    if form == "word":
        return is_word(part)
    if form == "sort":
        return isinstance(part, str) and part in ENDING_SORTS
    low, high = BOUNDS[form]
    return is_within(part, low, high)


def keep_fits(forms, deed):
    """Whether a deed keeps fewer than its copies, none where it has none."""
    copies = deed[forms.index("copies") + 1]
    keep = deed[forms.index("keep") + 1]
    return keep <= max(copies - 1, 0)
