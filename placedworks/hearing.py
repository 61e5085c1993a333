"""Hearing: the newest beat of each machine, and which machines are silent."""

from placedworks.kinds import QUIET
from placedworks.things import thing_copied


class Hearing:
    """What was heard of machines, at first nothing."""

    def __init__(self):
        self.newest = {}

    def hear(self, beat):
        """Keep a beat where it is newer than the kept one of its machine, and tell whether it was kept."""
        machine, life, turn, sheet, rows = beat
        if machine in self.newest and turn <= self.newest[machine][2]:
            return False
        self.newest[machine] = thing_copied(beat)
        return True

    def heard(self, turn):
        """The machines that aren't silent at a turn, sorted."""
        return sorted([machine for machine, beat in self.newest.items() if turn - beat[2] <= QUIET])

    def kept(self, machine):
        """The kept beat of a machine, or None."""
        return thing_copied(self.newest.get(machine))

    def has(self, machine, number):
        """Whether the kept beat of a machine has a number."""
        return number in [each for each, answers in self.rows_heard(machine)]

    def answers(self, machine, number):
        """Whether the kept beat of a machine has a number as answering."""
        return (number, True) in self.rows_heard(machine)

    def rows_heard(self, machine):
        """The rows of the kept beat of a machine, none where none is kept."""
        if machine not in self.newest:
            return []
        return self.newest[machine][4]
