"""The road: it bears messages between machines and the house, late, twice, or not while a machine is cut off."""

from placedworks.things import thing_copied


class Road:
    """A road for the messages of the machines of these names."""

    def __init__(self, machines):
        self.lateness = {machine: 0 for machine in machines}
        self.doubled = {machine: False for machine in machines}
        self.cut_off = {machine: False for machine in machines}
        # Tuples (due, machine, thing), in the order in which they were put.
        self.messages = []

    def late(self, machine, turns):
        """Let a machine's messages go so many turns late from now on."""
        self.lateness[machine] = turns

    def twice(self, machine, yes):
        """Let a machine's messages go twice from now on, or once."""
        self.doubled[machine] = yes

    def cut(self, machine):
        """Cut a machine off: what is of it stays on the road."""
        self.cut_off[machine] = True

    def join(self, machine):
        """Let a machine's messages come again."""
        self.cut_off[machine] = False

    def is_cut(self, machine):
        """Whether a machine is cut off."""
        return self.cut_off[machine]

    def put(self, machine, thing, turn):
        """Put a message on the road at a turn."""
        due = turn + 1 + self.lateness[machine]
        self.messages.append((due, machine, thing_copied(thing)))
        if self.doubled[machine]:
            # A copy of its own: whoever got the first one may change it.
            self.messages.append((due + 1, machine, thing_copied(thing)))

    def come(self, turn):
        """Take from the road what is due by a turn: the list of (machine, thing), in order."""
        due = [message for message in self.messages if self.is_due(message, turn)]
        self.messages = [message for message in self.messages if not self.is_due(message, turn)]
        # Messages of one turn stay in the order in which they were put.
        return [(machine, thing) for when, machine, thing in sorted(due, key=lambda message: message[0])]

    def is_due(self, message, turn):
        """Whether a message comes at a turn."""
        due, machine, thing = message
        return due <= turn and not self.cut_off[machine]

    def many(self):
        """How many messages are on the road."""
        return len(self.messages)
