"""The shelf: what was written to each store, and what became of each write."""


class Shelf:
    """Rows (token, turn, place, letters) for each store, at first none."""

    def __init__(self):
        self.shelved = {}
        # By (store, turn, place), the word told when it was put first.
        self.fates = {}

    def put(self, write):
        """Put a write on the shelf: "done", "stale", or "again" where it was put ahead."""
        store, token, turn, place, letters = write
        if (store, turn, place) in self.fates:
            return "again"
        rows = self.shelved.setdefault(store, [])
        # The last row has the greatest token, since no less one is let in behind it.
        if rows and token < rows[-1][0]:
            self.fates[(store, turn, place)] = "stale"
            return "stale"
        rows.append((token, turn, place, letters))
        self.fates[(store, turn, place)] = "done"
        return "done"

    def rows_of(self, store):
        """The rows of a store, in the order in which they were done."""
        return list(self.shelved.get(store, []))

    def became(self, store, turn, place):
        """What became of a write when it was put first; None where none was put."""
        return self.fates.get((store, turn, place))
