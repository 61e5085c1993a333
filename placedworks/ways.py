"""Ways: how copies may be moved on, one behind another, until a machine has a free berth for a kind."""


def way_for(berths, lying, kind):
    """A shortest way for a kind, of several the least one; None where there is none."""
    kinds = {machine: [] for machine, many in berths}
    for number, other, machine in lying:
        kinds[machine].append(other)
    free = [machine for machine, many in berths if len(kinds[machine]) < many]
    ways = []
    # Each start for itself: a way may lead through another machine that could be a start, too.
    for start in kinds:
        if kind not in kinds[start]:
            way = way_from(start, lying, kinds, free)
            if way is not None:
                ways.append(way)
    return min(ways, key=lambda each: (len(each), each), default=None)


def way_from(start, lying, kinds, free):
    """The shortest way from a machine to another with a free berth, of several the least one."""
    reached = {start: True}
    ways = {start: (start,)}
    while ways:
        ways = one_further(ways, lying, kinds, reached)
        ends = [ways[machine] for machine in ways if machine in free]
        if ends:
            return min(ends)
        for machine in ways:
            reached[machine] = True
    return None


def one_further(ways, lying, kinds, reached):
    """The least ways, longer by one step, to machines that none reached ahead."""
    further = {}
    for number, kind, machine in lying:
        if machine in ways:
            for other in kinds:
                if other not in reached and kind not in kinds[other]:
                    way = ways[machine] + (number, other)
                    further[other] = min(further.get(other, way), way)
    return further
