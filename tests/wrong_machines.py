"""Lists of machines that no keeper and no house is made of, each with the place at which it is refused."""

from odd_things import odd_things

EIGHT = [("m" + sign, 1) for sign in "abcdefgh"]

WRONG_MACHINES = [
    ([], 0), ((), 0), ("ma", 0), ((("ma", 1),), 0), ({"ma": 1}, 0), (None, 0), (True, 0), (8, 0),
    ([("ma", 0)], 0), ([("ma", 7)], 0), ([("ma", -1)], 0), ([("ma", True)], 0), ([("ma", "1")], 0), ([("ma", None)], 0),
    ([("", 1)], 0), ([("Ma", 1)], 0), ([("machinery", 1)], 0), ([("m1", 1)], 0), ([(1, 1)], 0), ([None], 0), (["ma"], 0),
    ([("ma",)], 0), ([("ma", 1, 1)], 0), ([["ma", 1]], 0), ([("ma", [1])], 0), ([("ma", 1.0)], 0),
    ([("ma", 1), ("ma", 1)], 1), ([("mb", 1), ("ma", 1)], 1), ([("ma", 1), ("mb", 0)], 1), ([("ma", 1), "mb"], 1),
    ([("ma", 1), ("mc", 2), ("mb", 3), ("mb", 0)], 2), ([("ma", 1), ("mb", 6), ("mc", 7), ("mb", 1)], 2),
    (EIGHT + [("mi", 1)], 8), (EIGHT + ["x"], 8), (EIGHT[:7] + [("mh", 0), ("mi", 1)], 7), (EIGHT + [("mi", 1)] * 3, 8),
]


def refused_by(case, kind, make):
    """Hold that a making refuses each wrong list of machines by a class, at its place."""
    wrong = WRONG_MACHINES + [(thing, 0) for thing in odd_things()]
    wrong += [([("ma", 1), thing], 1) for thing in odd_things()] + [([("ma", thing)], 0) for thing in odd_things()]
    for machines, at in wrong:
        with case.assertRaises(ValueError) as caught:
            make(machines)
        case.assertIs(caught.exception.__class__, kind)
        case.assertEqual(caught.exception.at, at)
