"""Points [50] to [61], [82] and [103] to [105] word by word, for tests to hold the house against."""

from keeper_by_words import KeeperByWords, told_by_keeper
from placedworks.doors import Door


class MachineByWords:
    def __init__(self):
        self.life = 0
        self.stands = False
        self.lies = {}
        self.leases = []
        self.sheet = 0

    def take(self, sheet):
        life, turn, rows, leases = sheet
        if self.stands and life == self.life and turn > self.sheet:
            self.sheet = turn
            self.leases = list(leases)
            for number in list(self.lies):
                if number not in [row[0] for row in rows]:
                    del self.lies[number]
            for row in rows:
                if row[0] not in self.lies:
                    self.lies[row[0]] = {"row": row, "state": "starting", "left": row[4]}

    def go_on(self):
        for copy in self.lies.values():
            if copy["state"] == "failed":
                copy["state"], copy["left"] = "starting", copy["row"][4]
            elif copy["state"] == "starting" and copy["left"] == 0:
                copy["state"] = "answering"
            elif copy["state"] == "starting":
                copy["left"] -= 1

    def answers(self, number):
        return number in self.lies and self.lies[number]["state"] == "answering"

    def lying(self):
        return [copy["row"][:4] + (copy["state"],) for _, copy in sorted(self.lies.items())]


class HouseByWords:
    def __init__(self, machines):
        self.machines = {name: MachineByWords() for name, _ in machines}
        self.keeper = KeeperByWords(machines)
        self.up = True
        self.turn = 0
        self.cut = {name: False for name in self.machines}
        self.late = {name: 0 for name in self.machines}
        self.twice = {name: False for name in self.machines}
        self.road = []
        self.doors = {}
        self.groups = []
        self.shelf = {}
        self.fates = {}
        self.sent = []
        self.led = []
        self.words = []

    def put(self, name, thing):
        due = self.turn + 1 + self.late[name]
        self.road.append((due, name, thing))
        if self.twice[name]:
            self.road.append((due + 1, name, thing))

    def play(self, rows):
        self.turn += 1
        coming = [message for message in self.road if message[0] <= self.turn and not self.cut[message[1]]]
        self.road = [message for message in self.road if message[0] > self.turn or self.cut[message[1]]]
        for due in sorted({message[0] for message in coming}):
            for _, name, thing in [message for message in coming if message[0] == due]:
                self.arrive(name, thing)
        told = [self.happen(*row) for row in rows]
        for name in sorted(self.machines):
            machine = self.machines[name]
            machine.go_on()
            if machine.stands:
                rows = [(number, machine.answers(number)) for number in sorted(machine.lies)]
                self.put(name, ("beat", (name, machine.life, self.turn, machine.sheet, rows)))
        self.lead()
        self.words = []
        if self.up:
            self.words, sheets = self.keeper.turn(self.turn)
            for name, sheet in sheets:
                self.put(name, ("sheet", sheet))
        book = self.keeper.book
        groups, names = book.groups(), [name for name, _ in book.doors()]
        self.doors = {name: door for name, door in self.doors.items() if name in names}
        for name in names:
            if name not in self.doors:
                self.doors[name] = Door(groups) if groups else Door()
            elif groups != self.groups:
                self.doors[name].new_shares(groups)
        self.groups = groups
        return told

    def arrive(self, name, thing):
        if thing[0] == "sheet":
            self.machines[name].take(thing[1])
        elif thing[0] == "beat":
            self.keeper.tell(thing)
        else:
            store, token, turn, place, letters = thing[1]
            rows = self.shelf.setdefault(store, [])
            if (store, turn, place) not in self.fates:
                stale = token < max([row[0] for row in rows], default=0)
                self.fates[(store, turn, place)] = "stale" if stale else "done"
                if not stale:
                    rows.append((token, turn, place, letters))

    def lead(self):
        self.led = []
        for name in sorted(self.doors):
            door = self.doors[name]
            if self.turn % 12 == 0:
                door.begin()
            copies = [(number, hands, told) for number, machine, hands, told in self.keeper.led(name)
                      if self.machines[machine].answers(number) and not self.cut[machine]]
            self.led += [(name, group, number) for group, number in door.lead(copies)]

    def happen(self, word, *parts):
        return getattr(self, "do_" + word)(*parts)

    def do_rise(self, name):
        machine = self.machines[name]
        if machine.stands:
            return False
        machine.stands, machine.life, machine.sheet = True, machine.life + 1, 0
        return True

    def do_fall(self, name):
        machine = self.machines[name]
        if not machine.stands:
            return False
        machine.stands, machine.lies, machine.leases = False, {}, []
        return True

    def do_cut(self, name):
        self.cut[name] = True

    def do_join(self, name):
        self.cut[name] = False

    def do_late(self, name, turns):
        self.late[name] = turns

    def do_twice(self, name, yes):
        self.twice[name] = yes

    def do_fail(self, number):
        for machine in self.machines.values():
            if machine.answers(number):
                machine.lies[number]["state"] = "failed"
                return True
        return False

    def do_ask(self, door, group, many):
        if door not in [name for name, _ in self.keeper.book.doors()]:
            return None
        self.keeper.tell(("asks", door, many))
        if group not in [name for name, _ in self.keeper.book.groups()]:
            return None
        return self.doors[door].ask(group, many)

    def do_write(self, store, letters):
        for name, machine in sorted(self.machines.items()):
            for leased, token, number, until in machine.leases:
                if leased == store and until > self.turn and machine.answers(number):
                    place = len([1 for each, turn, _, _ in self.sent if (each, turn) == (store, self.turn)])
                    self.put(name, ("write", (store, token, self.turn, place, letters)))
                    self.sent.append((store, self.turn, place, number))
                    return (number, place)
        return None

    def do_deed(self, deed):
        self.keeper.tell(("deed", deed))

    def do_down(self):
        self.up = False

    def do_up(self):
        self.up = True

    def do_again(self):
        """A keeper made anew of its journal goes on as it would have, so nothing is done."""

    def told(self):
        """As told_by_house of a house."""
        stores = sorted({store for store, _ in self.keeper.book.stores()} | {write[0] for write in self.sent} | {"zz"})
        return {
            "turn": self.turn, "up": self.up, "cut": dict(self.cut), "many": len(self.road), "led": self.led,
            "words": self.words, "rows": {store: self.shelf.get(store, []) for store in stores},
            "writes": [write + (self.fates.get(write[:3], "sent"),) for write in self.sent],
            "machines": {name: (machine.stands, machine.life, machine.lying(), machine.leases)
                         for name, machine in self.machines.items()},
            "keeper": self.keeper.told(),
        }


def told_by_house(house):
    """All that a house tells, but what was played, in a form that can be held against another one's."""
    book = house.keeper().book()
    stores = sorted({store for store, _ in book.stores()} | {write[0] for write in house.writes()} | {"zz"})
    machines = {name: house.machine(name) for name in book.machines()}
    return {
        "turn": house.turn(), "up": house.is_up(), "cut": {name: house.is_cut(name) for name in machines},
        "many": house.many(), "led": house.led(), "words": house.words(),
        "rows": {store: house.rows_of(store) for store in stores}, "writes": house.writes(),
        "machines": {name: (machine.stands(), machine.life(), machine.lying(), machine.leases())
                     for name, machine in machines.items()},
        "keeper": told_by_keeper(house.keeper()),
    }
