"""Houses, and happenings for them, by chance, but always the same ones of a seed."""

import random

from placedworks.house import House

NAMES = ["ma", "mb", "mc", "md", "me"]
WISHES = ["a", "b", "c", "d"]
STORES = ["s", "t"]
DOORS = ["p", "q", "r"]
GROUPS = ["day", "night", "noon"]
CALM = [0.0, 0.3, 0.6, 0.85]
LETTERS = ["", "x", "two words", " blanks ", "twelve signs"]


class ChanceHouse:
    """Machines of a house, and happenings, of which the less is likely the calmer it is."""

    def __init__(self, seed, calm=0.5, machines=5):
        self.chance = random.Random(seed)
        self.calm = calm
        names = NAMES[:self.chance.randrange(1, machines + 1)]
        self.machines = [(name, self.chance.randrange(1, 5)) for name in names]

    def name(self):
        return self.chance.choice(self.machines)[0]

    def first_rows(self):
        """Happenings of a first turn, behind which there is something to do."""
        rows = [("rise", name) for name, _ in self.machines]
        for group in GROUPS[:self.chance.randrange(1, 4)]:
            rows.append(("deed", ("group", group, self.chance.randrange(1, 10))))
        for wish in WISHES[:self.chance.randrange(1, 5)]:
            rows.append(("deed", self.wish_deed(wish)))
        rows += [("deed", ("store", store, self.chance.choice(WISHES))) for store in STORES]
        rows += [("deed", ("door", door, self.chance.choice(WISHES))) for door in DOORS]
        rows.append(("deed", self.rule_deed()))
        return rows

    def copies(self):
        copies = self.chance.randrange(5)
        return copies, self.chance.randrange(max(copies, 1))

    def wish_deed(self, wish):
        copies, keep = self.copies()
        return ("wish", wish, self.chance.choice("xyz"), copies, keep, self.chance.randrange(3),
                self.chance.randrange(1, 4))

    def rule_deed(self):
        copies, keep = self.copies()
        return ("rule", self.chance.choice(["more", "less"]), self.chance.choice(DOORS), self.chance.randrange(1, 21),
                copies, keep)

    def weighed(self, *choices):
        """One of these things, each with how likely it is."""
        return self.chance.choices([thing for _, thing in choices], [many for many, _ in choices])[0]

    def deed(self):
        wish = self.chance.choice(WISHES)
        copies, keep = self.copies()
        return self.weighed(
            (1, ("group", self.chance.choice(GROUPS), self.chance.randrange(1, 10))), (2, self.wish_deed(wish)),
            (3, ("copies", wish, copies, keep)),
            (5, ("edition", wish, self.chance.randrange(3), self.chance.randrange(1, 4))), (2, ("back", wish)),
            (1, ("rank", wish, self.chance.randrange(4))), (2, ("store", self.chance.choice(STORES), wish)),
            (2, ("door", self.chance.choice(DOORS), wish)), (1, self.rule_deed()), (2, ("empty", self.name())),
            (3, ("fill", self.name())), (1, ("end", "store", self.chance.choice(STORES))),
            (1, ("end", "door", self.chance.choice(DOORS))),
            (1, ("end", "rule", self.chance.choice(["more", "less"]))), (1, ("end", "wish", wish)),
        )

    def row(self, planned):
        name = self.name()
        return self.weighed(
            (6, ("rise", name)), (1, ("fall", name)), (1, ("cut", name)), (4, ("join", name)),
            (1, ("late", name, self.chance.randrange(3))), (1, ("twice", name, self.chance.random() < 0.5)),
            (1, ("fail", self.chance.choice(planned) if planned else 1)), (5, self.ask()), (5, self.write()),
            (4, ("deed", self.deed())), (1, ("down",)), (4, ("up",)), (1, ("again",)),
        )

    def ask(self):
        return ("ask", self.chance.choice(DOORS), self.chance.choice(GROUPS), self.chance.randrange(1, 15))

    def write(self):
        return ("write", self.chance.choice(STORES), self.chance.choice(LETTERS))

    def rows(self, planned):
        """Happenings of a turn, of a house that has planned copies of these numbers."""
        if self.chance.random() < self.calm:
            return []
        return [self.row(planned) for _ in range(self.chance.randrange(1, 6))]

    def calming_rows(self):
        """Happenings behind which the keeper is up and nothing is cut off, with much to do for it."""
        rows = [("join", name) for name, _ in self.machines]
        rows += [("rise", name) for name, _ in self.machines if self.chance.random() < 0.8]
        rows += [("late", name, self.chance.randrange(3)) for name, _ in self.machines]
        rows += [("deed", ("fill", name)) for name, _ in self.machines if self.chance.random() < 0.8]
        for wish in WISHES:
            copies, keep = self.copies()
            rows.append(("deed", self.wish_deed(wish)))
            rows.append(("deed", ("copies", wish, copies, keep)))
            rows.append(("deed", ("edition", wish, self.chance.randrange(3), self.chance.randrange(1, 4))))
        rows = [row for row in rows if row[0] != "deed" or self.chance.random() < 0.7]
        self.chance.shuffle(rows)
        return rows + [("ask", door, group, 40) for door in DOORS for group in GROUPS] + [("up",)]


def numbers_planned(house):
    return [row[0] for row in house.keeper().planned()]


def played(seeds, turns, machines=5):
    """Houses by chance, and the happenings of each turn, which are still to be played."""
    for seed in seeds:
        case = ChanceHouse(seed, CALM[seed % len(CALM)], machines)
        house = House(list(case.machines))
        for at in range(turns):
            rows = case.first_rows() if at == 0 else case.rows(numbers_planned(house))
            yield (seed, at), case, house, rows
