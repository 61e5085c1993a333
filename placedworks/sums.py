"""Room by sums: which demands fit which berths, what runs, where it may lie, what may fall."""

from placedworks.errors import BadAsked, BadBerths, NoRoom
from placedworks.kinds import is_within, is_word

MOST_ROWS = 8
MOST_COPIES = 6
MOST_BERTHS = 6


def refuse_wrong(berths, asked):
    """Refuse what is no list of berths, then what is no list of wishes asked."""
    refuse_berths(berths)
    refuse_asked(asked)


def refuse_berths(berths, least=0):
    """Refuse what is no list of at most eight machines, sorted, with so many berths each at least."""
    if not isinstance(berths, list):
        raise BadBerths(0)
    for at, row in enumerate(berths):
        if at >= MOST_ROWS or not is_machine_row(row, least) or at > 0 and row[0] <= berths[at - 1][0]:
            raise BadBerths(at)


def is_machine_row(row, least):
    """Whether a thing is a tuple (machine, berths), with so many berths at least."""
    return isinstance(row, tuple) and len(row) == 2 and is_word(row[0]) and is_within(row[1], least, MOST_BERTHS)


def refuse_asked(asked):
    """Refuse what is no list of at most eight unlike wishes, with their kinds and copies."""
    if not isinstance(asked, list):
        raise BadAsked(0)
    for at, row in enumerate(asked):
        if at >= MOST_ROWS or not is_asked_row(row) or row[0] in [ahead[0] for ahead in asked[:at]]:
            raise BadAsked(at)


def is_asked_row(row):
    """Whether a thing is a tuple (wish, kind, copies)."""
    if not isinstance(row, tuple) or len(row) != 3:
        return False
    return is_word(row[0]) and is_word(row[1]) and is_within(row[2], 0, MOST_COPIES)


def rooms_of(berths):
    """The numbers of berths alone."""
    return [many for machine, many in berths]


def demands_of(asked):
    """For each kind the copies of all its wishes together."""
    demands = {}
    for wish, kind, copies in asked:
        demands[kind] = demands.get(kind, 0) + copies
    return demands


def with_more(demands, kind, many):
    """Demands with so many more of a kind."""
    more = dict(demands)
    more[kind] = more.get(kind, 0) + many
    return more


def lacking(rooms, demands):
    """None where demands fit so many berths on each machine, else where they first don't."""
    demanded = 0
    for at, many in enumerate(sorted(demands.values(), reverse=True)):
        demanded += many
        room = sum([min(berths, at + 1) for berths in rooms])
        if demanded > room:
            return (at + 1, demanded, room)
    return None


def short_of(berths, asked):
    """None where what is asked fits the berths, else (i, demanded, room) for the least i that doesn't."""
    refuse_wrong(berths, asked)
    return lacking(rooms_of(berths), demands_of(asked))


def greatest_run(rooms, demands, kind, copies):
    """How many of so many copies of a kind fit beside the demands of those ahead."""
    for run in range(copies, 0, -1):
        if lacking(rooms, with_more(demands, kind, run)) is None:
            return run
    return 0


def running(rooms, asked):
    """What is asked with the runs in place of the copies."""
    demands = {}
    ran = []
    for wish, kind, copies in asked:
        run = greatest_run(rooms, demands, kind, copies)
        demands = with_more(demands, kind, run)
        ran.append((wish, kind, run))
    return ran


def runs_of(berths, asked):
    """The list of (wish, run), by rank."""
    refuse_wrong(berths, asked)
    return [(wish, run) for wish, kind, run in running(rooms_of(berths), asked)]


def shortages_of(rooms, asked, ran):
    """For each wish asked None where it runs in all its copies, else why not one more of it runs."""
    demands = {}
    shortages = []
    for (wish, kind, copies), (same, alike, run) in zip(asked, ran):
        demands = with_more(demands, kind, run)
        shortages.append(None if run == copies else lacking(rooms, with_more(demands, kind, 1)))
    return shortages


def shortage(berths, asked, at):
    """None where the wish at a place runs in all its copies, else why not one more of it runs."""
    refuse_wrong(berths, asked)
    rooms = rooms_of(berths)
    return shortages_of(rooms, asked, running(rooms, asked))[at]


def laying(berths, asked):
    """For each machine the sorted list of the kinds laid there; NoRoom where they don't fit."""
    refuse_wrong(berths, asked)
    demands = demands_of(asked)
    short = lacking(rooms_of(berths), demands)
    if short is not None:
        first, demanded, room = short
        raise NoRoom(first, demanded, room)
    left = dict(berths)
    laid = {machine: [] for machine in left}
    for kind in greatest_first(demands):
        chosen = greatest_first(left)[:demands[kind]]
        for machine in chosen:
            laid[machine].append(kind)
            left[machine] -= 1
    return {machine: sorted(kinds) for machine, kinds in laid.items()}


def greatest_first(numbers):
    """The words of a dict by falling numbers, of those as great by rising words."""
    return sorted(numbers, key=lambda word: (-numbers[word], word))


def bears(berths, asked):
    """None where what is asked doesn't fit; else how many machines may fall, and why not one more."""
    refuse_wrong(berths, asked)
    demands = demands_of(asked)
    # Without the machines that have the most berths there is the least room, in each sum.
    rooms = sorted(rooms_of(berths), reverse=True)
    if lacking(rooms, demands) is not None:
        return None
    for fallen in range(len(rooms)):
        short = lacking(rooms[fallen + 1:], demands)
        if short is not None:
            return (fallen, short)
    return (len(rooms), None)
