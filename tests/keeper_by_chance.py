"""Rows for keepers by chance, but always the same ones of a seed."""

from house_by_chance import DOORS, ChanceHouse


class ChanceKeeper(ChanceHouse):
    """Machines of a keeper, and rows for it: beats that come late, twice, of elder lives, of whatever numbers."""

    def __init__(self, seed, machines=4):
        super().__init__(seed, 0.5, machines)
        self.turn = 0
        self.lives = {name: 1 for name, _ in self.machines}
        self.sheets = {name: 0 for name, _ in self.machines}
        self.old = []

    def first_deeds(self):
        return [row for row in self.first_rows() if row[0] == "deed"]

    def beat(self, name, planned):
        """A beat of a machine, most often of just what is planned there."""
        if self.chance.random() < 0.05:
            self.lives[name] += 1
            self.sheets[name] = 0
        elif self.chance.random() < 0.7:
            self.sheets[name] = self.turn - 1 if self.turn else 0
        numbers = [row[0] for row in planned if row[6] == name and self.chance.random() < 0.9]
        if self.chance.random() < 0.1:
            numbers = sorted({*numbers, self.chance.randrange(1, 30)})
        rows = [(number, self.chance.random() < 0.8) for number in numbers]
        late = self.chance.choice([0, 0, 0, 1, 2, 5])
        return ("beat", (name, self.lives[name], max(self.turn - late, 0), self.sheets[name], rows))

    def rows_told(self, planned, moving):
        """The rows told ahead of the next turn; moving are machines to which copies are about to move."""
        rows = [self.beat(name, planned) for name, _ in self.machines if self.chance.random() < 0.7]
        self.old = (self.old + rows)[-8:]
        if self.old and self.chance.random() < 0.3:
            rows.append(self.chance.choice(self.old))
        rows += [("deed", self.deed()) for _ in range(self.chance.choice([0, 0, 0, 1, 2]))]
        if self.chance.random() < 0.3:
            rows.append(("deed", (self.chance.choice(["empty", "fill"]), self.name())))
        if moving and self.chance.random() < 0.5:
            rows.append(("deed", ("empty", self.chance.choice(moving))))
        rows += [("asks", self.chance.choice(DOORS), self.chance.randrange(1, 25))
                 for _ in range(self.chance.choice([0, 0, 1, 2]))]
        self.chance.shuffle(rows)
        return rows

    def next_turn(self):
        self.turn += self.chance.choice([1, 1, 1, 1, 2, 5])
        return self.turn
