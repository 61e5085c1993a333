"""The journal of a keeper as a text, and the keeper of such a text."""

from placedworks.errors import NoText
from placedworks.keeper import Keeper
from placedworks.kinds import is_word
from placedworks.texts import read_deed, read_number, read_rows, show_deed, show_parts

# Of a beat the parts ahead of its rows: the machine, its life, the turn, the sheet.
BEAT_PARTS = 4


def show_journal(keeper):
    """The text of a keeper's journal."""
    return "".join([show_row(row) + "\n" for row in keeper.journal()])


def show_row(row):
    """The text of a row of a journal."""
    if row[0] == "beat":
        return f"beat {show_beat(row[1])}"
    if row[0] == "deed":
        return f"deed {show_deed(row[1])}"
    return show_parts(row)


def show_beat(beat):
    """The text of a beat."""
    return show_parts(list(beat[:BEAT_PARTS]) + [show_known(number, answers) for number, answers in beat[BEAT_PARTS]])


def show_known(number, answers):
    """The text of what a beat tells of a copy."""
    sign = "+" if answers else "-"
    return f"{number}{sign}"


def keeper_of(machines, text):
    """The keeper of these machines and a journal's text."""
    keeper = Keeper(machines)
    read_rows(text, lambda row: tell_row(keeper, row))
    return keeper


def tell_row(keeper, text):
    """Tell a keeper what a row of a journal tells; NoText where it is none."""
    word, blank, rest = text.partition(" ")
    if word == "turn":
        keeper.turn(number_from(keeper.last_turn + 1, rest))
    elif word == "beat":
        keeper.tell(("beat", read_beat(keeper.berths_of, rest)))
    elif word == "deed":
        keeper.tell(("deed", read_deed(rest)))
    elif word == "asks":
        keeper.tell(read_asks(rest))
    else:
        raise NoText("this is no row of a journal")


def number_from(least, text):
    """The number of a text, so great at least; NoText where it is none."""
    number = read_number(text)
    if number is None or number < least:
        raise NoText("this is no such number")
    return number


def read_asks(text):
    """The row of asks of a text; NoText where it is none."""
    door, blank, many = text.partition(" ")
    if not is_word(door):
        raise NoText("this is no door's name")
    return ("asks", door, number_from(1, many))


def read_beat(machines, text):
    """The beat of a text, of one of these machines; NoText where it is none."""
    parts = text.split(" ")
    if len(parts) < BEAT_PARTS or parts[0] not in machines:
        raise NoText("this is no beat of these machines")
    life, turn, sheet = [number_from(0, part) for part in parts[1:BEAT_PARTS]]
    rows = []
    least = 0
    for part in parts[BEAT_PARTS:]:
        rows.append(read_known(least, part))
        least = rows[-1][0] + 1
    return (parts[0], life, turn, sheet, rows)


def read_known(least, text):
    """What a text tells of a copy of a number so great at least; NoText where it is none."""
    if not text.endswith("+") and not text.endswith("-"):
        raise NoText("this doesn't tell whether a copy answers")
    return (number_from(least, text[:-1]), text.endswith("+"))
