"""The keeper: it hears beats, does deeds, follows rules, plans copies and gives leases, turn by turn."""

from placedworks.book import Book
from placedworks.errors import BadBerths, PlaceError
from placedworks.hearing import Hearing
from placedworks.leases import Leases
from placedworks.posts import Posts
from placedworks.sums import bears, refuse_berths, runs_of
from placedworks.things import thing_copied


def refuse_machines(machines):
    """Refuse what is no sorted list of one to eight machines with a berth each at least."""
    refuse_berths(machines, 1)
    if not machines:
        raise BadBerths(0)


def told_as(word, rows):
    """What the rows of a word tell, in order."""
    return [row[1] for row in rows if row[0] == word]


def asked_by_door(rows):
    """For each door how many asks the rows tell of it, together."""
    asked = {}
    for row in rows:
        if row[0] == "asks":
            asked[row[1]] = asked.get(row[1], 0) + row[2]
    return asked


def asked_of(book):
    """The wishes of a book as sums ask for them: tuples (wish, kind, copies), by rank."""
    return [row[:3] for row in wish_rows(book)]


def wish_rows(book):
    """The wishes of a book as posts ask for them: (wish, kind, copies, keep, edition, start, hands), by rank."""
    rows = []
    for name in book.wishes():
        wish = book.wish(name)
        start, hands = wish["editions"][wish["edition"] - 1]
        rows.append((name, wish["kind"], wish["copies"], wish["keep"], wish["edition"], start, hands))
    return rows


class Keeper:
    """The keeper of these machines, tuples (name, berths)."""

    def __init__(self, machines):
        refuse_machines(machines)
        self.berths_of = dict(machines)
        self.own_book = Book(list(self.berths_of))
        self.hearing = Hearing()
        self.posts = Posts()
        self.given = Leases()
        # All rows ever told, with the turns, and those of them that wait for the next turn.
        self.rows_told = []
        self.rows_waiting = []
        self.last_turn = 0
        # The machines that were heard at the last turn, sorted.
        self.heard_names = []
        # By number, of the copies that are gone: the machine and the turn.
        self.gone_from = {}

    def tell(self, row):
        """Let a row wait for the next turn."""
        kept_row = thing_copied(row)
        self.rows_told.append(kept_row)
        self.rows_waiting.append(kept_row)

    def turn(self, turn):
        """Make a turn: tell what became of the deeds, and the sheets of the machines that are heard."""
        waiting = self.rows_waiting
        self.rows_waiting = []
        self.rows_told.append(("turn", turn))
        self.last_turn = turn
        for beat in told_as("beat", waiting):
            self.hearing.hear(beat)
        words = [self.do_by_hand(deed) for deed in told_as("deed", waiting)]
        self.follow_rules(asked_by_door(waiting))
        answering = self.plan(turn)
        self.lend(turn, answering)
        return (words, [(machine, self.sheet_for(machine, turn)) for machine in self.heard_names])

    def do_by_hand(self, deed):
        """Do a deed in the book, and tell what became of it."""
        try:
            self.own_book.do(deed)
        except PlaceError:
            return "refused"
        return "done"

    def follow_rules(self, asked):
        """Do the deed of each rule whose door is asked enough, where that changes something."""
        wish_of = dict(self.own_book.doors())
        for name, door, asks, copies, keep in self.own_book.rules():
            wish = self.own_book.wish(wish_of[door])
            if asked.get(door, 0) >= asks and (wish["copies"], wish["keep"]) != (copies, keep):
                self.own_book.do(("copies", wish_of[door], copies, keep), by=name)

    def plan(self, turn):
        """Make a turn of posts, and tell the numbers that are known to answer."""
        self.heard_names = [machine for machine in self.hearing.heard(turn) if machine in self.berths_of]
        answering = []
        for machine in self.heard_names:
            answering += [number for number, answers in self.hearing.kept(machine)[4] if answers]
        machine_of = {row[0]: row[6] for row in self.posts.planned()}
        emptied = self.own_book.emptied()
        machines = [(machine, self.berths_of[machine], machine in emptied) for machine in self.heard_names]
        for number in self.posts.turn(wish_rows(self.own_book), machines, answering):
            self.gone_from[number] = (machine_of[number], turn)
        return answering

    def lend(self, turn, answering):
        """Renew leases, let them go and give new ones, store by store."""
        wish_of = dict(self.own_book.stores())
        # Of a store that the book has no more, a lease that was let go needs nothing.
        ended = [lease[0] for lease in self.given.all_leases() if lease[0] not in wish_of]
        for store in sorted(list(wish_of) + ended):
            self.lend_one(store, wish_of.get(store), turn, answering)

    def lend_one(self, store, wish, turn, answering):
        """Do so for one store, of a wish, or of None where the book has the store no more."""
        able = [copy for copy, leaving in self.posts.posts_of(wish) if copy in answering]
        lease = self.given.lease_of(store)
        if lease is not None and turn < lease[3] and lease[2] in able:
            self.given.renew(store, turn)
            return
        if lease is not None and self.is_surely_gone(lease[2]):
            self.given.let_go(store)
            lease = None
        if able and (lease is None or turn >= lease[3]):
            self.given.give(store, self.first_able(able, wish), turn)

    def is_surely_gone(self, number):
        """Whether a copy is out of the plan, and its machine is known to have taken a sheet without it."""
        if number not in self.gone_from:
            return False
        machine, turn = self.gone_from[number]
        return self.hearing.kept(machine)[3] >= turn

    def first_able(self, able, wish):
        """The least of these numbers, those of the told edition ahead of others."""
        edition = self.own_book.wish(wish)["edition"]
        return min(able, key=lambda number: (self.posts.copy_of(number)[3] != edition, number))

    def sheet_for(self, machine, turn):
        """The sheet of a machine that is heard."""
        rows = [row[:6] for row in self.posts.planned_on(machine)]
        numbers = [row[0] for row in rows]
        leases = [lease for lease in self.given.all_leases() if lease[2] in numbers]
        return (self.hearing.kept(machine)[1], turn, rows, leases)

    def book(self):
        """A copy of the book."""
        return self.own_book.copied()

    def posts_of(self, wish):
        """The posts of a wish."""
        return self.posts.posts_of(wish)

    def planned(self):
        """All planned copies, sorted."""
        return self.posts.planned()

    def runs(self):
        """The list of (wish, run) of the last turn, by rank."""
        return self.posts.runs()

    def reasons(self):
        """The sorted list of (number, word) of all that the last turn lost or put."""
        return self.posts.reasons()

    def shortage_of(self, wish):
        """Why no more of a wish ran in the last turn, or None."""
        return self.posts.shortage_of(wish)

    def all_leases(self):
        """All leases but those let go, sorted."""
        return self.given.all_leases()

    def kept(self, machine):
        """The kept beat of a machine, or None."""
        return self.hearing.kept(machine)

    def journal(self):
        """All rows told so far, with the turns, in order."""
        return thing_copied(self.rows_told)

    def led(self, door):
        """The copies that a door leads to: the list of (number, machine, hands, told), by rising number."""
        wish_of = dict(self.own_book.doors())
        if door not in wish_of:
            return []
        told = self.own_book.wish(wish_of[door])["edition"]
        copies = []
        for number, wish, kind, edition, start, hands, machine in self.posts.planned():
            if wish == wish_of[door]:
                copies.append((number, machine, hands, edition == told))
        return copies

    def would(self, deeds):
        """The runs that the wishes would have, were these deeds done by hand now; refused as they are."""
        book = self.book()
        for deed in deeds:
            book.do(deed)
        return runs_of(self.usable_by(book), asked_of(book))

    def falls(self):
        """How many of the usable machines may fall, and why not one more; None where the wishes don't fit."""
        return bears(self.usable_by(self.own_book), asked_of(self.own_book))

    def usable_by(self, book):
        """The machines that were heard at the last turn, with their berths, but those that a book has emptied."""
        emptied = book.emptied()
        return [(machine, self.berths_of[machine]) for machine in self.heard_names if machine not in emptied]
