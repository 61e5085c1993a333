"""Moves: on which machine a copy may be put, and which copy goes on so that there will be such a one.

Berths are tuples (machine, berths); lying are tuples (number, kind, machine) of copies on these machines, by
rising number.
"""

from placedworks.sums import greatest_first
from placedworks.ways import way_for


def machine_for(berths, lying, kind):
    """The machine with the most free berths, of those that have one and lack a kind; None where there is none."""
    free = {}
    for machine, many in berths:
        kinds = [other for number, other, where in lying if where == machine]
        if len(kinds) < many and kind not in kinds:
            free[machine] = many - len(kinds)
    if not free:
        return None
    return greatest_first(free)[0]


def step_for(berths, lying, kind):
    """Which copy goes on first on the way for a kind, and to which machine; None where there is no way."""
    way = way_for(berths, lying, kind)
    if way is None:
        return None
    return way[-2:]
