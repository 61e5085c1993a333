"""The book: what is wished, as deeds told it."""

from placedworks.deeds import is_deed
from placedworks.errors import BadName, Known, NoBack, NoDeed, TooMany, Unknown, Used
from placedworks.kinds import is_word

MOST_MACHINES = 8
MOST_EDITIONS = 9
MOST = {"group": 4, "wish": 8, "store": 4, "door": 6, "rule": 4}

# Of which sort, and at which place of the deed, is the name that must be there already.
NEEDED = {
    "copies": ("wish", 1),
    "edition": ("wish", 1),
    "back": ("wish", 1),
    "rank": ("wish", 1),
    "store": ("wish", 2),
    "door": ("wish", 2),
    "rule": ("door", 2),
    "empty": ("machine", 1),
    "fill": ("machine", 1),
}

# By which sorts one of this sort is used; their rows have its name at their second place.
USERS = {"wish": ("store", "door"), "store": (), "door": ("rule",), "rule": ()}


def refuse_names(names):
    """Refuse what is no list of one to eight unlike words."""
    if not isinstance(names, list) or not names:
        raise BadName(0)
    for at, name in enumerate(names):
        if at >= MOST_MACHINES or not is_word(name) or name in names[:at]:
            raise BadName(at)


def wish_copied(wish):
    """A wish's dict anew, its list of editions anew, too."""
    twin = dict(wish)
    twin["editions"] = list(wish["editions"])
    return twin


def tell_row(book, deed):
    """Do group, store, door, rule."""
    book.told_rows[deed[0]].append(deed[1:])


def tell_wish(book, deed):
    """Do wish."""
    name, kind, copies, keep, start, hands = deed[1:]
    book.ranked.append(name)
    book.wished[name] = {
        "kind": kind, "copies": copies, "keep": keep, "edition": 1, "editions": [(start, hands)],
    }


def tell_copies(book, deed):
    """Do copies."""
    name, copies, keep = deed[1:]
    book.wished[name]["copies"] = copies
    book.wished[name]["keep"] = keep


def tell_edition(book, deed):
    """Do edition."""
    name, start, hands = deed[1:]
    wish = book.wished[name]
    wish["editions"].append((start, hands))
    wish["edition"] = len(wish["editions"])


def go_back(book, deed):
    """Do back."""
    book.wished[deed[1]]["edition"] -= 1


def tell_rank(book, deed):
    """Do rank."""
    name, place = deed[1:]
    book.ranked.remove(name)
    book.ranked.insert(place, name)


def empty_machine(book, deed):
    """Do empty."""
    if deed[1] not in book.emptied_names:
        book.emptied_names.append(deed[1])


def fill_machine(book, deed):
    """Do fill."""
    if deed[1] in book.emptied_names:
        book.emptied_names.remove(deed[1])


def end_one(book, deed):
    """Do end."""
    sort, name = deed[1:]
    if sort == "wish":
        book.ranked.remove(name)
        del book.wished[name]
        book.ended.append(name)
    else:
        book.told_rows[sort] = [row for row in book.told_rows[sort] if row[0] != name]


DOINGS = {
    "group": tell_row,
    "wish": tell_wish,
    "copies": tell_copies,
    "edition": tell_edition,
    "back": go_back,
    "rank": tell_rank,
    "store": tell_row,
    "door": tell_row,
    "rule": tell_row,
    "empty": empty_machine,
    "fill": fill_machine,
    "end": end_one,
}


class Book:
    """What is wished of the machines of these names."""

    def __init__(self, machines):
        refuse_names(machines)
        self.machine_names = list(machines)
        self.emptied_names = []
        self.ranked = []
        self.wished = {}
        self.ended = []
        self.told_rows = {"group": [], "store": [], "door": [], "rule": []}
        self.done = []

    def __eq__(self, other):
        if not isinstance(other, Book):
            return False
        deeds = [deed for by, deed in self.done]
        return self.machine_names == other.machine_names and deeds == [deed for by, deed in other.done]

    def copied(self):
        """A book equal to this one, that goes on by itself."""
        twin = Book(self.machine_names)
        twin.emptied_names = list(self.emptied_names)
        twin.ranked = list(self.ranked)
        twin.wished = {name: wish_copied(wish) for name, wish in self.wished.items()}
        twin.ended = list(self.ended)
        twin.told_rows = {sort: list(rows) for sort, rows in self.told_rows.items()}
        twin.done = list(self.done)
        return twin

    def do(self, deed, *, by="hand"):
        """Do a deed, whatever is handed in; what is refused changes nothing."""
        if not is_deed(deed):
            raise NoDeed("this is no deed")
        self.refuse_unknown(deed)
        self.refuse_known(deed)
        self.refuse_too_many(deed)
        self.refuse_no_back(deed)
        self.refuse_used(deed)
        doing = DOINGS[deed[0]]
        doing(self, deed)
        self.done.append((by, deed))

    def names_of(self, sort):
        """The names of all of a sort that there are now."""
        if sort == "machine":
            return self.machines()
        if sort == "wish":
            return self.wishes()
        return [row[0] for row in self.told_rows[sort]]

    def refuse_unknown(self, deed):
        """Refuse a deed of something that there isn't."""
        if deed[0] == "end":
            sort, name = deed[1:]
        elif deed[0] in NEEDED:
            sort, place = NEEDED[deed[0]]
            name = deed[place]
        else:
            return
        if name not in self.names_of(sort):
            raise Unknown(name)

    def refuse_known(self, deed):
        """Refuse to tell anew what there is, or a wish that there was."""
        sort, name = deed[0], deed[1]
        if sort in MOST and name in self.names_of(sort):
            raise Known(name)
        if sort == "wish" and name in self.ended:
            raise Known(name)

    def refuse_too_many(self, deed):
        """Refuse one more than there may be."""
        sort = deed[0]
        if sort in MOST and len(self.names_of(sort)) >= MOST[sort]:
            raise TooMany(MOST[sort])
        if sort == "edition" and len(self.wished[deed[1]]["editions"]) >= MOST_EDITIONS:
            raise TooMany(MOST_EDITIONS)

    def refuse_no_back(self, deed):
        """Refuse to go back from the first edition."""
        if deed[0] == "back" and self.wished[deed[1]]["edition"] == 1:
            raise NoBack("the told edition is the first one")

    def refuse_used(self, deed):
        """Refuse to end what is used."""
        if deed[0] != "end":
            return
        for user in USERS[deed[1]]:
            for row in self.told_rows[user]:
                if row[1] == deed[2]:
                    raise Used(row[0])

    def groups(self):
        """The list of (name, share), in the order told."""
        return list(self.told_rows["group"])

    def wishes(self):
        """The wishes' names, by rank."""
        return list(self.ranked)

    def wish(self, name):
        """A wish's dict; Unknown, whatever is asked, where there is none."""
        # What is no word may be such that no dict can be asked for it.
        if not is_word(name) or name not in self.wished:
            raise Unknown(name)
        return wish_copied(self.wished[name])

    def stores(self):
        """The list of (name, wish), in the order told."""
        return list(self.told_rows["store"])

    def doors(self):
        """The list of (name, wish), in the order told."""
        return list(self.told_rows["door"])

    def rules(self):
        """The list of (name, door, asks, copies, keep), in the order told."""
        return list(self.told_rows["rule"])

    def emptied(self):
        """The emptied machines, sorted."""
        return sorted(self.emptied_names)

    def machines(self):
        """The machines, in the order handed in."""
        return list(self.machine_names)

    def log(self):
        """The list of (by, deed), in the order done."""
        return list(self.done)
