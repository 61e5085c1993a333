"""Shares: by which groups the slots of a door are owned."""

from placedworks.errors import BadShare
from placedworks.kinds import is_within, is_word

MOST_GROUPS = 4
MOST_SHARE = 9


def refuse_shares(shares):
    """Refuse what is no list of one to four unlike groups with their shares."""
    if not isinstance(shares, list) or not shares:
        raise BadShare(0)
    for at, row in enumerate(shares):
        if at >= MOST_GROUPS or not is_share_row(row) or row[0] in [ahead[0] for ahead in shares[:at]]:
            raise BadShare(at)


def is_share_row(row):
    """Whether a thing is a tuple (group, share)."""
    return isinstance(row, tuple) and len(row) == 2 and is_word(row[0]) and is_within(row[1], 1, MOST_SHARE)


def owners(shares, many):
    """The owners of the first so many slots."""
    refuse_shares(shares)
    one_round = round_of(shares)
    return [one_round[slot % len(one_round)] for slot in range(many)]


def round_of(shares):
    """The owners of as many slots as all shares together are: behind them all begins anew.

    By then each group has owned just as many slots as its share is, and its
    further units are released and due so many slots later than the first ones.
    """
    whole = sum([share for group, share in shares])
    owned = {group: 0 for group, share in shares}
    row = []
    for slot in range(whole):
        released = [(group, share) for group, share in shares if owned[group] * whole // share <= slot]
        owner, share = min(released, key=lambda each: due_at(owned[each[0]], whole, each[1]))
        owned[owner] += 1
        row.append(owner)
    return row


def due_at(unit, whole, share):
    """The least whole number that is not below (unit + 1) * whole / share."""
    return -(-(unit + 1) * whole // share)
