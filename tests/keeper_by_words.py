"""Points [100] to [102] word by word, slowly, for tests to hold the keeper against."""

from placedworks.book import Book
from placedworks.errors import PlaceError
from placedworks.sums import bears, runs_of
from posts_by_words import PostsByWords


class KeeperByWords:
    def __init__(self, machines):
        self.machines = dict(machines)
        self.book = Book([name for name, _ in machines])
        self.posts = PostsByWords()
        self.beats = {}
        self.leases = {}
        self.gone_at = {}
        self.heard = []
        self.waiting = []
        self.rows = []

    def tell(self, row):
        self.waiting.append(row)
        self.rows.append(row)

    def turn(self, turn):
        self.rows.append(("turn", turn))
        waiting, self.waiting = self.waiting, []
        for row in waiting:
            if row[0] == "beat":
                beat = row[1]
                if beat[0] not in self.beats or beat[2] > self.beats[beat[0]][2]:
                    self.beats[beat[0]] = beat
        words = []
        for row in waiting:
            if row[0] == "deed":
                try:
                    self.book.do(row[1])
                    words.append("done")
                except PlaceError:
                    words.append("refused")
        for rule, door, asks, copies, keep in self.book.rules():
            wish = [of for name, of in self.book.doors() if name == door][0]
            now = self.book.wish(wish)
            asked = sum(row[2] for row in waiting if row[0] == "asks" and row[1] == door)
            if asked >= asks and not (now["copies"] == copies and now["keep"] == keep):
                self.book.do(("copies", wish, copies, keep), by=rule)
        self.heard = [name for name in sorted(self.machines) if name in self.beats and turn - self.beats[name][2] <= 3]
        self.known = [number for name in self.heard for number, answers in self.beats[name][4] if answers]
        before = dict(self.posts.copies)
        machines = [(name, self.machines[name], name in self.book.emptied()) for name in self.heard]
        for number in self.posts.turn(self.wishes(self.book), machines, self.known):
            self.gone_at[number] = (before[number][6], turn)
        for store in sorted({name for name, _ in self.book.stores()} | set(self.leases)):
            self.lease(store, turn)
        return words, [(name, self.sheet(name, turn)) for name in self.heard]

    def wishes(self, book):
        rows = []
        for name in book.wishes():
            wish = book.wish(name)
            start, hands = wish["editions"][wish["edition"] - 1]
            rows.append((name, wish["kind"], wish["copies"], wish["keep"], wish["edition"], start, hands))
        return rows

    def lease(self, store, turn):
        wish = dict(self.book.stores()).get(store)
        lease = self.leases.get(store)
        able = [post[0] for post in self.posts.posts.get(wish, []) if post[0] in self.known]
        if lease and wish and lease["number"] in able and not lease["let"] and turn < lease["until"]:
            lease["until"] = max(lease["until"], turn + 6)
        elif lease and lease["number"] not in self.posts.copies:
            machine, gone = self.gone_at[lease["number"]]
            if self.beats[machine][3] >= gone:
                lease["let"] = True
        if wish and able and (not lease or lease["let"] or turn >= lease["until"]):
            edition = self.book.wish(wish)["edition"]
            told = [number for number in able if self.posts.copies[number][3] == edition]
            token = lease["token"] + 1 if lease else 1
            self.leases[store] = {"token": token, "number": min(told or able), "until": turn + 6, "let": False}

    def all_leases(self):
        return [(store, lease["token"], lease["number"], lease["until"])
                for store, lease in sorted(self.leases.items()) if not lease["let"]]

    def sheet(self, name, turn):
        copies = [row for row in self.planned() if row[6] == name]
        leases = [lease for lease in self.all_leases() if lease[2] in [row[0] for row in copies]]
        return (self.beats[name][1], turn, [row[:6] for row in copies], leases)

    def planned(self):
        return sorted(self.posts.copies.values())

    def led(self, door):
        for name, wish in self.book.doors():
            if name == door:
                told = self.book.wish(wish)["edition"]
                return [(row[0], row[6], row[5], row[3] == told) for row in self.planned() if row[1] == wish]
        return []

    def usable(self, book):
        return [(name, self.machines[name]) for name in self.heard if name not in book.emptied()]

    def would(self, deeds):
        book = self.book.copied()
        for deed in deeds:
            book.do(deed)
        return runs_of(self.usable(book), [wish[:3] for wish in self.wishes(book)])

    def falls(self):
        return bears(self.usable(self.book), [wish[:3] for wish in self.wishes(self.book)])

    def told(self):
        """As told_by_keeper of a keeper."""
        names = self.book.wishes() + ["zz"]
        return {
            "log": self.book.log(), "planned": self.planned(), "runs": self.posts.runs,
            "reasons": self.posts.reasons, "leases": self.all_leases(), "falls": self.falls(), "would": self.would([]),
            "journal": self.rows, "posts": {name: [tuple(post) for post in self.posts.posts.get(name, [])]
                                            for name in names},
            "shortages": {name: self.posts.shortages.get(name) for name in names},
            "kept": {name: self.beats.get(name) for name in self.machines},
            "led": {name: self.led(name) for name, _ in self.book.doors() + [("zz", "")]},
        }


def told_by_keeper(keeper):
    """All that a keeper tells, in a form that can be held against another one's."""
    book = keeper.book()
    names = book.wishes() + ["zz"]
    return {
        "log": book.log(), "planned": keeper.planned(), "runs": keeper.runs(), "reasons": keeper.reasons(),
        "leases": keeper.all_leases(), "falls": keeper.falls(), "would": keeper.would([]),
        "journal": keeper.journal(), "posts": {name: keeper.posts_of(name) for name in names},
        "shortages": {name: keeper.shortage_of(name) for name in names},
        "kept": {name: keeper.kept(name) for name in book.machines()},
        "led": {name: keeper.led(name) for name, _ in book.doors() + [("zz", "")]},
    }
