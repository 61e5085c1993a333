"""The chronicle of a house as a text, and the house of such a text."""

from placedworks.errors import NoRow, NoText
from placedworks.happenings import read_happening, show_happening
from placedworks.house import House
from placedworks.texts import read_rows


def show_chronicle(house):
    """The text of all that happened in a house, turn by turn."""
    return "".join([show_turn(rows) for rows in house.played()])


def show_turn(rows):
    """The text of the happenings of a turn."""
    return "".join([show_happening(row) + "\n" for row in rows]) + "turn\n"


def house_of(machines, text):
    """The house of these machines that has played the turns of a chronicle's text."""
    house = House(machines)
    rows = read_rows(text, lambda row: read_told(house, row))
    if rows and rows[-1] is not None:
        raise NoRow(len(rows))
    waiting = []
    for row in rows:
        if row is None:
            house.play(waiting)
            waiting = []
        else:
            waiting.append(row)
    return house


def read_told(house, text):
    """The happening that a row of a chronicle tells, None where a turn ends; NoText where it is none."""
    if text == "turn":
        return None
    row = read_happening(text)
    if not house.may_happen(row):
        raise NoText("this is no happening of a house of these machines")
    return row
