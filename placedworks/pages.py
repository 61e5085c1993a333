"""Pages: how a house is, as a text of rows; such a text read; and what has changed between two of them."""

from placedworks.errors import NoText
from placedworks.kinds import is_word
from placedworks.texts import read_number, read_rows, show_parts

PAGE_FORMS = {
    "turn": ("number",),
    "keeper": ("up",),
    "machine": ("word", "number", "number", "way"),
    "copy": ("number", "word", "word", "number", "state"),
    "wish": ("word", "number", "number", "number", "number"),
    "lease": ("word", "number", "number", "number"),
    "store": ("word", "word", "number"),
    "door": ("word", "word"),
}

CHOICES = {
    "up": ("up", "down"),
    "way": ("stands", "fallen", "cut"),
    "state": ("starting", "answering", "failed"),
}


def show_page(house):
    """The page of a house."""
    return "".join([show_parts(row) + "\n" for row in page_of(house)])


def page_of(house):
    """The rows of a house's page, in order."""
    keeper = house.keeper()
    book = keeper.book()
    rows = [("turn", house.turn()), ("keeper", "up" if house.is_up() else "down")]
    # The book has the machines sorted by name, as the house was made of them.
    for name in book.machines():
        rows.append(machine_row(house, name))
        rows += [("copy",) + copy for copy in house.machine(name).lying()]
    rows += wishes_of(keeper, book)
    rows += [("lease",) + lease for lease in keeper.all_leases()]
    rows += [("store", store, wish, len(house.rows_of(store))) for store, wish in book.stores()]
    rows += [("door", door, wish) for door, wish in book.doors()]
    return rows


def machine_row(house, name):
    """The row of a machine."""
    machine = house.machine(name)
    way = "stands" if machine.stands() else "fallen"
    return ("machine", name, machine.berths(), machine.life(), "cut" if house.is_cut(name) else way)


def wishes_of(keeper, book):
    """The rows of the wishes, by rank."""
    ran = dict(keeper.runs())
    rows = []
    for name in book.wishes():
        wish = book.wish(name)
        rows.append(("wish", name, ran.get(name, 0), wish["copies"], wish["keep"], wish["edition"]))
    return rows


def read_page(text):
    """The rows of a page's text; NoRow at the first that is none."""
    return read_rows(text, read_page_row)


def read_page_row(text):
    """The row of a text; NoText where it is none."""
    parts = text.split(" ")
    forms = PAGE_FORMS.get(parts[0])
    if forms is None or len(parts) != len(forms) + 1:
        raise NoText("this has not the parts of a page's row")
    things = [read_page_part(form, part) for form, part in zip(forms, parts[1:])]
    if None in things:
        raise NoText("this is no page's row")
    return tuple(parts[:1] + things)


def read_page_part(form, text):
    """A part of a page's row as its form asks for it to be read; None where it is none."""
    if form == "number":
        return read_number(text)
    right = is_word(text) if form == "word" else text in CHOICES[form]
    return text if right else None


def changes(one, other):
    """The sorted lists of the rows that only the first page has, and of those that only the second one has."""
    firsts = [show_parts(row) for row in read_page(one)]
    seconds = [show_parts(row) for row in read_page(other)]
    return (lacking_in(seconds, firsts), lacking_in(firsts, seconds))


def lacking_in(others, rows):
    """The rows that aren't among others, sorted, each once."""
    return sorted({row: True for row in rows if row not in others})
