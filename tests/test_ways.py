"""Points [44] and [45]: ways."""

import copy
import random
import unittest

from placedworks.sums import short_of
from placedworks.ways import way_for


def is_way(berths, lying, kind, way):
    """Point [44], word by word, of a tuple of the right form."""
    machines = way[::2]
    kinds = {machine: [row[1] for row in lying if row[2] == machine] for machine, _ in berths}
    if len(machines) < 2 or len(set(machines)) < len(machines) or kind in kinds[machines[0]]:
        return False
    rows = {row[0]: row for row in lying}
    for at, number in enumerate(way[1::2]):
        _, moved, machine = rows[number]
        if machine != machines[at] or moved in kinds[machines[at + 1]]:
            return False
    return len(kinds[machines[-1]]) < dict(berths)[machines[-1]]


def all_ways(berths, lying, kind):
    """Each way for a kind, by trying."""
    found = []

    def further(way):
        if is_way(berths, lying, kind, way):
            found.append(way)
        for number, _, machine in lying:
            if machine == way[-1]:
                for other, _ in berths:
                    if other not in way[::2]:
                        further(way + (number, other))

    for start, _ in berths:
        further((start,))
    return found


def some_case(seed):
    """Berths and what lies on them by chance: few free berths, of a kind at most one on a machine."""
    chance = random.Random(seed)
    names = ["ma", "mb", "mc", "md"][:chance.randrange(1, 5)]
    berths = [(name, chance.randrange(4)) for name in names]
    lying = []
    numbers = chance.sample(range(1, 40), 20)
    for machine, many in berths:
        for kind in chance.sample("xyzu", max(0, many - chance.choice([0, 0, 0, 1]))):
            lying.append((numbers.pop(), kind, machine))
    return berths, sorted(lying)


class TestWays(unittest.TestCase):
    def test_one_move(self):
        self.assertEqual(way_for([("ma", 1), ("mb", 2)], [(1, "y", "ma"), (2, "x", "mb")], "x"), ("ma", 1, "mb"))

    def test_two_moves(self):
        berths = [("ma", 1), ("mb", 2), ("mc", 3)]
        lying = [(1, "y", "ma"), (2, "x", "mb"), (3, "z", "mb"), (4, "x", "mc"), (5, "y", "mc")]
        self.assertEqual(way_for(berths, lying, "x"), ("ma", 1, "mb", 3, "mc"))

    def test_three_moves(self):
        berths = [("ma", 4), ("mb", 3), ("mc", 2), ("md", 1)]
        lying = [
            (1, "x", "ma"), (2, "y", "ma"), (3, "z", "ma"),
            (4, "x", "mb"), (5, "y", "mb"), (6, "u", "mb"),
            (7, "x", "mc"), (8, "z", "mc"),
            (9, "y", "md"),
        ]
        self.assertEqual(way_for(berths, lying, "x"), ("md", 9, "mc", 8, "mb", 6, "ma"))

    def test_none(self):
        self.assertIsNone(way_for([], [], "x"))
        self.assertIsNone(way_for([("ma", 3)], [], "x"))
        self.assertIsNone(way_for([("ma", 1), ("mb", 1)], [(1, "y", "ma"), (2, "x", "mb")], "x"))
        self.assertIsNone(way_for([("ma", 1), ("mb", 2)], [(1, "x", "ma"), (2, "x", "mb")], "x"))
        self.assertIsNone(way_for([("ma", 1), ("mb", 2)], [(1, "y", "ma"), (2, "y", "mb")], "x"))
        self.assertIsNone(way_for([("ma", 0), ("mb", 2)], [(2, "x", "mb")], "x"))

    def test_no_machine_twice(self):
        self.assertIsNone(way_for([("ma", 2), ("mb", 1)], [(1, "y", "ma"), (2, "z", "mb")], "z"))
        self.assertEqual(way_for([("ma", 2), ("mb", 1)], [(1, "y", "ma"), (2, "z", "mb")], "y"), ("mb", 2, "ma"))

    def test_the_least_of_several(self):
        berths = [("ma", 2), ("mb", 2), ("mc", 3), ("md", 3)]
        lying = [
            (5, "y", "ma"), (9, "z", "ma"), (3, "y", "mb"), (4, "z", "mb"), (1, "x", "mc"), (2, "x", "md"),
        ]
        self.assertEqual(way_for(berths, sorted(lying), "x"), ("ma", 5, "mc"))
        self.assertEqual(way_for(berths, sorted(lying + [(6, "y", "mc")]), "x"), ("ma", 5, "md"))
        self.assertEqual(way_for(berths, sorted(lying + [(6, "y", "mc"), (7, "y", "md")]), "x"), ("ma", 9, "mc"))

    def test_numbers_go_as_numbers(self):
        berths = [("ma", 2), ("mb", 3)]
        self.assertEqual(way_for(berths, [(9, "y", "ma"), (10, "z", "ma"), (11, "x", "mb")], "x"), ("ma", 9, "mb"))

    def test_a_shorter_one_ahead_of_a_lesser_one(self):
        berths = [("ma", 1), ("mb", 2), ("mc", 3), ("md", 1)]
        lying = [
            (1, "y", "ma"), (2, "x", "mb"), (3, "z", "mb"), (4, "x", "mc"), (5, "y", "mc"), (6, "u", "md"),
        ]
        self.assertEqual(way_for(berths, lying, "x"), ("md", 6, "mc"))

    def test_a_start_may_have_a_free_berth_itself(self):
        self.assertEqual(way_for([("ma", 2), ("mb", 2)], [(1, "y", "ma")], "x"), ("ma", 1, "mb"))

    def test_a_way_through_what_could_be_a_start(self):
        berths = [("ma", 1), ("mb", 1), ("mc", 3)]
        lying = [(1, "y", "ma"), (2, "z", "mb"), (3, "x", "mc"), (4, "y", "mc")]
        self.assertEqual(way_for(berths, lying, "x"), ("mb", 2, "mc"))
        self.assertEqual(way_for(berths, lying, "z"), ("ma", 1, "mb", 2, "mc"))

    def test_by_trying(self):
        lengths = {}
        for seed in range(3000):
            berths, lying = some_case(seed)
            for kind in "xyw":
                ways = all_ways(berths, lying, kind)
                told = way_for(berths, lying, kind)
                self.assertEqual(told, min(ways, key=lambda way: (len(way), way), default=None), (berths, lying, kind))
                length = 0 if told is None else len(told)
                lengths[length] = lengths.get(length, 0) + 1
        self.assertTrue(all(lengths.get(length, 0) > 3 for length in (0, 3, 5)), lengths)

    def test_there_is_a_way_where_one_more_fits(self):
        found = 0
        for seed in range(6000):
            berths, lying = some_case(seed)
            kinds = {machine: [row[1] for row in lying if row[2] == machine] for machine, _ in berths}
            for kind in "xyzu":
                if any(kind not in kinds[machine] for machine, many in berths if len(kinds[machine]) < many):
                    continue
                demands = {each: len([row for row in lying if row[1] == each]) for each in "xyzu"}
                demands[kind] += 1
                if short_of(berths, [(each, each, many) for each, many in demands.items()]) is None:
                    self.assertIsNotNone(way_for(berths, lying, kind), (berths, lying, kind))
                    found += 1
        self.assertTrue(found > 50, found)

    def test_a_way_is_gone_from_its_end(self):
        for seed in range(2000):
            berths, lying = some_case(seed)
            way = way_for(berths, lying, "x")
            if way is None or len(way) < 5:
                continue
            moved = [row for row in lying if row[0] != way[-2]]
            kind = [row[1] for row in lying if row[0] == way[-2]][0]
            moved = sorted(moved + [(way[-2], kind, way[-1])])
            self.assertEqual(len(way_for(berths, moved, "x")), len(way) - 2)

    def test_eight_machines(self):
        names = ["ma", "mb", "mc", "md", "me", "mf", "mg", "mh"]
        berths = [(name, 6) for name in names]
        lying = []
        for machine in names:
            for kind in "abcdef":
                lying.append((len(lying) + 1, kind, machine))
        self.assertIsNone(way_for(berths, lying, "x"))
        self.assertIsNone(way_for(berths, lying[:-1], "f"))
        berths[-1] = ("mh", 7)
        lying[0] = (1, "g", "ma")
        self.assertEqual(way_for(berths, lying, "a"), ("ma", 1, "mh"))

    def test_what_is_handed_in_stays(self):
        for seed in range(100):
            berths, lying = some_case(seed)
            before = copy.deepcopy((berths, lying))
            way_for(berths, lying, "x")
            self.assertEqual((berths, lying), before)


if __name__ == "__main__":
    unittest.main()
