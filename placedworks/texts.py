"""Deeds as texts, and texts as deeds."""

from placedworks.deeds import BOUNDS, PARTS, is_deed
from placedworks.errors import NoRow, NoText, PlaceError

FIGURES = "0123456789"
MOST_FIGURES = 10


def show_deed(deed):
    """A deed's text."""
    return show_parts(deed)


def show_parts(parts):
    """Words and numbers with one blank between each two."""
    return " ".join([str(part) for part in parts])


def show_deeds(deeds):
    """The text of a list of deeds, each with a line feed behind it."""
    return "".join([show_deed(deed) + "\n" for deed in deeds])


def read_deed(text):
    """The deed of a text; NoText, whatever is handed in, where it is none."""
    if not isinstance(text, str):
        raise NoText("this is no text")
    parts = text.split(" ")
    forms = PARTS.get(parts[0])
    if forms is None or len(parts) != len(forms) + 1:
        raise NoText("this has not the parts of a deed")
    deed = tuple(parts[:1] + [read_part(form, part) for form, part in zip(forms, parts[1:])])
    if not is_deed(deed):
        raise NoText("this is no deed's text")
    return deed


def read_part(form, text):
    """A part of a deed as its form asks: a number where it is bounded, else the text."""
    return read_number(text) if form in BOUNDS else text


def read_number(text):
    """The number of a text; None where the text is none."""
    if not 1 <= len(text) <= MOST_FIGURES:
        return None
    # Python reads figures of other scripts, too, and noughts ahead.
    if not all([sign in FIGURES for sign in text]):
        return None
    if text[0] == "0" and text != "0":
        return None
    return int(text)


def read_rows(text, read):
    """What each row of a text is read to; NoRow at the first that is refused, or behind the last line feed."""
    if not isinstance(text, str):
        raise NoRow(0)
    rows = text.split("\n")
    rest = rows.pop()
    things = []
    for at, row in enumerate(rows):
        try:
            things.append(read(row))
        except PlaceError:
            raise NoRow(at) from None
    if rest != "":
        raise NoRow(len(rows))
    return things


def read_deeds(text):
    """The list of deeds of a text; NoRow at the first row that is none."""
    return read_rows(text, read_deed)
