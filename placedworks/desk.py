"""The desk: a house that is told rows of text, and answers with texts."""

from placedworks.chronicle import show_chronicle
from placedworks.errors import NoLine, NoText, Unknown
from placedworks.happenings import read_happening
from placedworks.house import House
from placedworks.kinds import is_word
from placedworks.texts import show_parts


def joined(parts):
    """The parts of an answer, or none."""
    return ", ".join(parts) if parts else "none"


def show_told(thing):
    """What a happening told, as a text."""
    if thing is None:
        return "-"
    if isinstance(thing, bool):
        return "yes" if thing else "no"
    if isinstance(thing, tuple):
        return show_parts(thing)
    return str(thing)


def forget(desk):
    """Answer forget."""
    many = len(desk.happenings)
    desk.happenings = []
    return str(many)


def play_turn(desk):
    """Answer turn."""
    rows = desk.happenings
    desk.happenings = []
    return joined([show_told(thing) for thing in desk.house().play(rows)])


def tell_runs(desk):
    """Answer runs."""
    keeper = desk.house().keeper()
    book = keeper.book()
    ran = dict(keeper.runs())
    return joined([show_parts([name, ran.get(name, 0), book.wish(name)["copies"]]) for name in book.wishes()])


def tell_falls(desk):
    """Answer falls."""
    falling = desk.house().keeper().falls()
    return "none" if falling is None else str(falling[0])


def tell_chronicle(desk):
    """Answer chronicle."""
    return show_chronicle(desk.house())


def tell_short(desk, name):
    """Answer short of a wish."""
    keeper = desk.house().keeper()
    if name not in keeper.book().wishes():
        raise Unknown(name)
    lack = keeper.shortage_of(name)
    return "none" if lack is None else show_parts(lack)


def tell_lies(desk, name):
    """Answer lies of a machine."""
    house = desk.house()
    if name not in house.by_name:
        raise Unknown(name)
    return joined([show_parts([copy[0], copy[4]]) for copy in house.machine(name).lying()])


def tell_rows(desk, name):
    """Answer rows of a store."""
    return str(len(desk.house().rows_of(name)))


ANSWERS = {
    "forget": forget,
    "turn": play_turn,
    "runs": tell_runs,
    "falls": tell_falls,
    "chronicle": tell_chronicle,
}

NAMED_ANSWERS = {"short": tell_short, "lies": tell_lies, "rows": tell_rows}


class Desk:
    """A desk of a house of these machines; at first no happenings wait."""

    def __init__(self, machines):
        self.own_house = House(machines)
        self.happenings = []

    def say(self, row):
        """Answer a row; NoLine, whatever is handed in, where it is none."""
        if not isinstance(row, str):
            raise NoLine("this is no text")
        if row in ANSWERS:
            answer = ANSWERS[row]
            return answer(self)
        word, blank, name = row.partition(" ")
        if word in NAMED_ANSWERS and is_word(name):
            named_answer = NAMED_ANSWERS[word]
            return named_answer(self, name)
        return self.let_wait(row)

    def let_wait(self, text):
        """Let a happening wait for the next turn."""
        try:
            happening = read_happening(text)
        except NoText:
            raise NoLine("this is no row of a desk") from None
        if not self.own_house.may_happen(happening):
            raise NoLine("the house has no such machine")
        self.happenings.append(happening)
        return "kept"

    def house(self):
        """Its very house."""
        return self.own_house
