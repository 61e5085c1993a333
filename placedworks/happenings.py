"""Happenings as texts, and texts as happenings."""

from placedworks.errors import NoText
from placedworks.rows import FORMS, RANGES, is_happening
from placedworks.texts import read_deed, read_number, show_deed, show_parts

TRUTHS = {"yes": True, "no": False}


def show_happening(row):
    """A happening's text: its word and parts with one blank between each two."""
    return show_parts([row[0]] + [shown(form, part) for form, part in zip(FORMS[row[0]], row[1:])])


def shown(form, part):
    """A part of a happening as its form asks for it to be written."""
    if form == "deed":
        return show_deed(part)
    if form == "yes":
        return "yes" if part else "no"
    return part


def read_happening(text):
    """The happening of a text, of whatever house; NoText, whatever is handed in, where it is none."""
    if not isinstance(text, str):
        raise NoText("this is no text")
    forms = FORMS.get(text.partition(" ")[0], ())
    # Blanks behind that many are of the last part: only letters and deeds may have them.
    parts = text.split(" ", len(forms))
    row = tuple(parts[:1] + [read_form(form, part) for form, part in zip(forms, parts[1:])])
    if not is_happening(row):
        raise NoText("this is no happening's text")
    return row


def read_form(form, text):
    """A part of a happening as its form asks for it to be read; None where it is none, or the text."""
    if form in RANGES:
        return read_number(text)
    if form == "yes":
        return TRUTHS.get(text)
    if form == "deed":
        return read_deed(text)
    return text
