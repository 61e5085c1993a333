"""Leases: which copy may write a store, and until which turn."""

from placedworks.errors import Early
from placedworks.kinds import LEASE


class Leases:
    """The last lease of each store, at first of none: a tuple (store, token, number, until)."""

    def __init__(self):
        self.last = {}
        # The stores whose last lease was let go.
        self.let = {}

    def give(self, store, number, turn):
        """A new lease of a store for a copy; Early where the one that there is still runs."""
        lease = self.lease_of(store)
        if lease is not None and turn < lease[3]:
            raise Early(lease[3])
        self.last[store] = (store, self.token_of(store) + 1, number, turn + LEASE)
        self.let[store] = False
        return self.last[store]

    def renew(self, store, turn):
        """A store's lease, running on; Early where there is none that still runs."""
        lease = self.lease_of(store)
        if lease is None or turn >= lease[3]:
            raise Early(self.until_of(store))
        same, token, number, until = lease
        self.last[store] = (store, token, number, max(until, turn + LEASE))
        return self.last[store]

    def let_go(self, store):
        """Let a store's lease go, and tell whether there was one that wasn't."""
        if self.lease_of(store) is None:
            return False
        self.let[store] = True
        return True

    def all_leases(self):
        """All leases but those let go, sorted."""
        return sorted([lease for store, lease in self.last.items() if not self.let[store]])

    def lease_of(self, store):
        """A store's lease; None where there is none, or it was let go."""
        if store not in self.last or self.let[store]:
            return None
        return self.last[store]

    def token_of(self, store):
        """The greatest token given so far for a store, 0 where none was."""
        if store not in self.last:
            return 0
        return self.last[store][1]

    def until_of(self, store):
        """The until of a store's last lease, let go or not; 0 where there was none."""
        if store not in self.last:
            return 0
        return self.last[store][3]
