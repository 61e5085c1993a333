"""The house: machines, a road, a shelf, doors and a keeper, and what happens to them turn by turn."""

from placedworks.doors import Door
from placedworks.errors import BadRow, Unknown
from placedworks.journal import keeper_of, show_journal
from placedworks.keeper import Keeper
from placedworks.kinds import DAY
from placedworks.machine import Machine
from placedworks.road import Road
from placedworks.rows import is_happening, machine_in
from placedworks.shelf import Shelf


def heal(posts, machines):
    """Behind how many quiet turns all runs that may, with so many posts and usable machines."""
    return 3 + 9 * (2 * posts * machines + 2 * posts + 2)


def let_rise(house, row):
    """Let a machine rise."""
    return house.machine(row[1]).rise()


def let_fall(house, row):
    """Let a machine fall."""
    return house.machine(row[1]).fall()


def cut_machine(house, row):
    """Cut a machine off."""
    house.road.cut(row[1])


def join_machine(house, row):
    """Join a machine again."""
    house.road.join(row[1])


def make_late(house, row):
    """Tell how late a machine's messages go."""
    house.road.late(row[1], row[2])


def make_twice(house, row):
    """Tell whether a machine's messages go twice."""
    house.road.twice(row[1], row[2])


def let_fail(house, row):
    """Let a copy that answers fail, wherever it lies."""
    return any([machine.fail(row[1]) for machine in house.by_name.values()])


def bring_asks(house, row):
    """Bring asks of a group to a door."""
    name, group, many = row[1:]
    if name not in house.door_of:
        return None
    house.keeper().tell(("asks", name, many))
    try:
        return house.door_of[name].ask(group, many)
    except Unknown:
        return None


def put_write(house, row):
    """Write to a store, by the copy that may."""
    store, letters = row[1:]
    turn = house.turn()
    for name, machine in house.by_name.items():
        lease = machine.lease_at(store, turn)
        if lease is not None:
            number, token = lease
            place = house.places.get(store, 0)
            house.places[store] = place + 1
            house.road.put(name, ("write", (store, token, turn, place, letters)), turn)
            house.written.append((store, turn, place, number))
            return (number, place)
    return None


def tell_deed(house, row):
    """Tell a deed to the keeper."""
    house.keeper().tell(row)


def take_down(house, row):
    """Let the keeper be down."""
    house.keeper_up = False


def bring_up(house, row):
    """Let the keeper be up."""
    house.keeper_up = True


def make_again(house, row):
    """Put a keeper made anew of the journal in the keeper's place."""
    house.own_keeper = keeper_of(house.machine_rows, show_journal(house.own_keeper))


DOINGS = {
    "rise": let_rise,
    "fall": let_fall,
    "cut": cut_machine,
    "join": join_machine,
    "late": make_late,
    "twice": make_twice,
    "fail": let_fail,
    "ask": bring_asks,
    "write": put_write,
    "deed": tell_deed,
    "down": take_down,
    "up": bring_up,
    "again": make_again,
}


class House:
    """A house of these machines, tuples (name, berths)."""

    def __init__(self, machines):
        self.own_keeper = Keeper(machines)
        self.keeper_up = True
        self.machine_rows = list(machines)
        # By name, sorted, since the machines are.
        self.by_name = {name: Machine(name, berths) for name, berths in machines}
        self.road = Road(list(self.by_name))
        self.shelf = Shelf()
        self.door_of = {}
        self.groups_known = []
        # The happenings of each turn so far.
        self.turns_played = []
        # Of each write the tuple (store, turn, place, number), in the order in which they were put.
        self.written = []
        # How many writes of each store were put in this turn so far.
        self.places = {}
        self.asks_led = []
        self.deed_words = []

    def play(self, rows):
        """Play a turn of these happenings, and tell what they told; BadRow where one is none."""
        self.refuse_rows(rows)
        happened = list(rows)
        self.turns_played.append(happened)
        self.places = {}
        self.take_what_comes()
        told = [self.happen(row) for row in happened]
        self.go_on_by_name()
        self.lead_asks()
        self.keep()
        self.mend_doors()
        return told

    def refuse_rows(self, rows):
        """Refuse what is no list of happenings of this house."""
        if not isinstance(rows, list):
            raise BadRow(0)
        for at, row in enumerate(rows):
            if not self.may_happen(row):
                raise BadRow(at)

    def may_happen(self, thing):
        """Whether a thing, whatever it is, is a happening of this house."""
        if not is_happening(thing):
            return False
        machine = machine_in(thing)
        return machine is None or machine in self.by_name

    def take_what_comes(self):
        """Take what comes from the road to where it goes."""
        for name, message in self.road.come(self.turn()):
            word, thing = message
            if word == "sheet":
                self.machine(name).take(thing)
            elif word == "write":
                self.shelf.put(thing)
            else:
                self.own_keeper.tell(message)

    def happen(self, row):
        """Do what a happening tells, and tell what it told."""
        doing = DOINGS[row[0]]
        return doing(self, row)

    def go_on_by_name(self):
        """Let the machines go on, and those that stand send their beats."""
        turn = self.turn()
        for name, machine in self.by_name.items():
            machine.go_on()
            if machine.stands():
                self.road.put(name, ("beat", machine.beat(turn)), turn)

    def lead_asks(self):
        """Let each door lead asks to the copies that can be reached."""
        self.asks_led = []
        for name in sorted(self.door_of):
            door = self.door_of[name]
            if self.turn() % DAY == 0:
                door.begin()
            led = door.lead(self.reached_by(name))
            self.asks_led += [(name, group, number) for group, number in led]

    def reached_by(self, door):
        """The copies (number, hands, told) of a door that answer on machines that aren't cut off."""
        copies = []
        for number, name, hands, told in self.own_keeper.led(door):
            if self.machine(name).answers(number) and not self.is_cut(name):
                copies.append((number, hands, told))
        return copies

    def keep(self):
        """Let the keeper make its turn, if it is up, and send its sheets."""
        self.deed_words = []
        if self.keeper_up:
            turn = self.turn()
            words, sheets = self.own_keeper.turn(turn)
            self.deed_words = words
            for name, sheet in sheets:
                self.road.put(name, ("sheet", sheet), turn)

    def mend_doors(self):
        """Have just the doors of the book, with its groups as shares."""
        book = self.own_keeper.book()
        groups = book.groups()
        if groups != self.groups_known:
            self.groups_known = groups
            for door in self.door_of.values():
                door.new_shares(groups)
        self.door_of = {name: self.door_called(name) for name, wish in book.doors()}

    def door_called(self, name):
        """The door of a name, a new one where there is none yet."""
        if name in self.door_of:
            return self.door_of[name]
        return Door(self.groups_known or None)

    def turn(self):
        """How many turns were played."""
        return len(self.turns_played)

    def machine(self, name):
        """The very machine of a name."""
        return self.by_name[name]

    def is_cut(self, name):
        """Whether a machine is cut off."""
        return self.road.is_cut(name)

    def is_up(self):
        """Whether the keeper is up."""
        return self.keeper_up

    def keeper(self):
        """The very keeper."""
        return self.own_keeper

    def rows_of(self, store):
        """The rows of a store on the shelf."""
        return self.shelf.rows_of(store)

    def writes(self):
        """The list of (store, turn, place, number, word) of all writes so far."""
        writes = []
        for store, turn, place, number in self.written:
            writes.append((store, turn, place, number, self.shelf.became(store, turn, place) or "sent"))
        return writes

    def led(self):
        """The list of (door, group, number) of what was led in the last turn."""
        return list(self.asks_led)

    def words(self):
        """What the keeper told of deeds in the last turn."""
        return list(self.deed_words)

    def many(self):
        """How many messages are on the road."""
        return self.road.many()

    def played(self):
        """The lists of happenings, turn by turn."""
        return [list(rows) for rows in self.turns_played]
