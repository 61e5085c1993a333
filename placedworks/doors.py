"""Doors: asks of groups wait at them, and are led to copies, slot by slot as shares tell."""

from placedworks.errors import Unknown
from placedworks.kinds import is_word
from placedworks.shares import refuse_shares, round_of

MOST_WAITING = 40


class Door:
    """A door of these shares, or of none; at first nothing waits at it."""

    def __init__(self, shares=None):
        # By group, in the order of the shares.
        self.asks_waiting = {}
        self.owner_round = []
        self.next_slot = 0
        self.number_led = None
        if shares is not None:
            self.new_shares(shares)

    def new_shares(self, shares):
        """Go by these shares from now on, begun anew; what waits of groups that are among them stays."""
        refuse_shares(shares)
        self.asks_waiting = {group: self.asks_waiting.get(group, 0) for group, share in shares}
        self.owner_round = round_of(shares)
        self.begin()

    def begin(self):
        """Begin anew: the next slot is the first one."""
        self.next_slot = 0

    def ask(self, group, many):
        """Let so many asks of a group wait, as far as there is room, and tell how many were let in."""
        let_in = max(min(many, MOST_WAITING - self.waits(group)), 0)
        self.asks_waiting[group] += let_in
        return let_in

    def waits(self, group):
        """How many asks of a group wait; Unknown where there is no such group."""
        if not is_word(group) or group not in self.asks_waiting:
            raise Unknown(group)
        return self.asks_waiting[group]

    def slot(self):
        """The next slot's number."""
        return self.next_slot

    def owner(self):
        """The group that owns the next slot; None without shares."""
        if not self.owner_round:
            return None
        return self.owner_round[self.next_slot % len(self.owner_round)]

    def use(self):
        """Use a slot: the group of which an ask is led; None where none waits."""
        if not self.is_waited_at():
            return None
        groups = list(self.asks_waiting)
        first = groups.index(self.owner())
        waiting = [group for group in groups[first:] + groups[:first] if self.asks_waiting[group] > 0]
        self.asks_waiting[waiting[0]] -= 1
        self.next_slot += 1
        return waiting[0]

    def is_waited_at(self):
        """Whether an ask waits."""
        return any(self.asks_waiting.values())

    def lead(self, copies):
        """Lead asks to copies (number, hands, told) that answer: the list of (group, number), in order."""
        used = [row for row in copies if row[2]] or copies
        hands = {number: many for number, many, told in used}
        led = []
        number = self.number_next(hands)
        while number is not None and self.is_waited_at():
            led.append((self.use(), number))
            hands[number] -= 1
            self.number_led = number
            number = self.number_next(hands)
        return led

    def number_next(self, hands):
        """The number that is led to next, going round, of those that have a hand left; None where none has."""
        free = [number for number, many in hands.items() if many > 0]
        behind = [number for number in free if self.number_led is None or number > self.number_led]
        return min(behind or free, default=None)
