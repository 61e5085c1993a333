"""A machine: it rises and falls, takes sheets, and tells beats of what lies on it."""

from placedworks.copies import failed, gone_on, is_answering, new_copy, told_copy


class Machine:
    """A machine of this name with so many berths, fallen at first."""

    def __init__(self, name, berths):
        self.name = name
        self.berth_count = berths
        self.standing = False
        self.lives = 0
        self.sheet_turn = 0
        self.laid = {}
        self.known_leases = []

    def copied(self):
        """A machine that is just so, and goes on by itself."""
        twin = Machine(self.name, self.berth_count)
        twin.standing = self.standing
        twin.lives = self.lives
        twin.sheet_turn = self.sheet_turn
        twin.laid = dict(self.laid)
        twin.known_leases = list(self.known_leases)
        return twin

    def rise(self):
        """Stand, in a new life without a sheet; False where it stands already."""
        if self.standing:
            return False
        self.standing = True
        self.lives += 1
        self.sheet_turn = 0
        return True

    def fall(self):
        """Lose all that lies here and all leases; False where it is fallen already."""
        if not self.standing:
            return False
        self.standing = False
        self.laid = {}
        self.known_leases = []
        return True

    def take(self, sheet):
        """Take a newer sheet of this life, and tell whether it was taken."""
        life, turn, rows, leases = sheet
        if not self.standing or life != self.lives or turn <= self.sheet_turn:
            return False
        self.sheet_turn = turn
        self.laid = {row[0]: self.laid.get(row[0], new_copy(row)) for row in rows}
        self.known_leases = list(leases)
        return True

    def go_on(self):
        """Go on by a turn."""
        self.laid = {number: gone_on(copy) for number, copy in self.laid.items()}

    def fail(self, number):
        """Let a copy that answers fail, and tell whether there is such a one."""
        if not self.answers(number):
            return False
        self.laid[number] = failed(self.laid[number])
        return True

    def beat(self, turn):
        """The beat (machine, life, turn, sheet, rows) at a turn; None where it is fallen."""
        if not self.standing:
            return None
        rows = [(number, is_answering(copy)) for number, copy in self.laid.items()]
        return (self.name, self.lives, turn, self.sheet_turn, rows)

    def called(self):
        """Its name."""
        return self.name

    def berths(self):
        """How many berths it has."""
        return self.berth_count

    def stands(self):
        """Whether it stands."""
        return self.standing

    def life(self):
        """How many times it rose."""
        return self.lives

    def lying(self):
        """The list of (number, wish, kind, edition, state), by rising number."""
        return [told_copy(copy) for copy in self.laid.values()]

    def answers(self, number):
        """Whether a copy with this number answers here."""
        return number in self.laid and is_answering(self.laid[number])

    def leases(self):
        """The leases known here, as the last sheet told them."""
        return list(self.known_leases)

    def lease_at(self, store, turn):
        """The (number, token) by which a copy here may write a store at a turn; None where none may."""
        for leased, token, number, until in self.known_leases:
            if leased == store and until > turn and self.answers(number):
                return (number, token)
        return None
