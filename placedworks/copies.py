"""Copies on a machine, as tuples (row, state, left).

The row is the one of the sheet that brought the copy, the state is "starting",
"answering" or "failed", and left is how many turns it still has to wait while
it is starting.
"""


def new_copy(row):
    """A copy that begins to start."""
    number, wish, kind, edition, start, hands = row
    return (row, "starting", start)


def gone_on(copy):
    """A copy as it is one turn later."""
    row, state, left = copy
    if state == "failed":
        return new_copy(row)
    if state == "starting" and left > 0:
        return (row, "starting", left - 1)
    return (row, "answering", 0)


def failed(copy):
    """A copy that answered, as it is once it failed."""
    row, state, left = copy
    return (row, "failed", 0)


def is_answering(copy):
    """Whether a copy answers."""
    row, state, left = copy
    return state == "answering"


def told_copy(copy):
    """What is told of a copy: (number, wish, kind, edition, state)."""
    (number, wish, kind, edition, start, hands), state, left = copy
    return (number, wish, kind, edition, state)
