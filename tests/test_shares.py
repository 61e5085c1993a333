"""Point [90]: shares and the owners of slots; of [3] and [4] what is told and refused."""

import copy
import itertools
import random
import unittest

from odd_things import odd_things
from placedworks import errors
from placedworks.shares import owners


def by_words(shares, many):
    """Point [90], word by word."""
    whole = sum(share for _, share in shares)
    units = {group: 0 for group, _ in shares}
    found = []
    for slot in range(many):
        best = None
        for group, share in shares:
            unit = units[group]
            if unit * whole // share <= slot:
                due = 0
                while due * share < (unit + 1) * whole:
                    due += 1
                if best is None or due < best[0]:
                    best = (due, group)
        units[best[1]] += 1
        found.append(best[1])
    return found


class SharesCase(unittest.TestCase):
    def refused(self, shares, at, many=3):
        with self.assertRaises(errors.PlaceError) as caught:
            owners(shares, many)
        self.assertIs(caught.exception.__class__, errors.BadShare, shares.__class__)
        self.assertEqual(caught.exception.at, at)


class TestOwners(SharesCase):
    def test_one_group(self):
        for share in (1, 5, 9):
            self.assertEqual(owners([("day", share)], 4), ["day"] * 4)

    def test_two_as_great(self):
        self.assertEqual(owners([("a", 1), ("b", 1)], 5), ["a", "b", "a", "b", "a"])
        self.assertEqual(owners([("b", 7), ("a", 7)], 4), ["b", "a", "b", "a"])

    def test_two_unlike(self):
        # Units of a are due at 2, 3; that of b at 3, so a comes first; a's second one is released at 1.
        self.assertEqual(owners([("a", 2), ("b", 1)], 6), ["a", "a", "b", "a", "a", "b"])
        self.assertEqual(owners([("b", 1), ("a", 2)], 6), ["a", "b", "a", "a", "b", "a"])

    def test_released_and_due_at_the_same_slot(self):
        self.assertEqual(owners([("a", 3), ("b", 1)], 8), by_words([("a", 3), ("b", 1)], 8))
        self.assertEqual(owners([("a", 1), ("b", 3)], 8), by_words([("a", 1), ("b", 3)], 8))

    def test_least_and_greatest_shares(self):
        found = owners([("a", 9), ("b", 1)], 20)
        self.assertEqual(found, by_words([("a", 9), ("b", 1)], 20))
        self.assertEqual(found.count("b"), 2)

    def test_four_groups(self):
        self.assertEqual(owners([("a", 1), ("b", 1), ("c", 1), ("d", 1)], 6), ["a", "b", "c", "d", "a", "b"])
        shares = [("a", 9), ("b", 8), ("c", 7), ("d", 9)]
        self.assertEqual(owners(shares, 100), by_words(shares, 100))

    def test_no_slots(self):
        self.assertEqual(owners([("a", 1)], 0), [])
        self.assertEqual(owners([("a", 2), ("b", 3)], 0), [])

    def test_one_slot(self):
        self.assertEqual(owners([("a", 1), ("b", 2)], 1), ["b"])

    def test_very_many_slots(self):
        found = owners([("a", 7), ("b", 5), ("c", 3), ("d", 1)], 200000)
        self.assertEqual(len(found), 200000)
        self.assertEqual([found.count(group) for group in "abcd"], [87500, 62500, 37500, 12500])

    def test_as_the_words_tell(self):
        for many in (1, 2):
            for shares in itertools.product(range(1, 10), repeat=many):
                rows = list(zip("ab", shares))
                self.assertEqual(owners(rows, 45), by_words(rows, 45), rows)
        chance = random.Random(7)
        for _ in range(250):
            rows = [(group, chance.randrange(1, 10)) for group in chance.sample("abcd", chance.choice([3, 4]))]
            self.assertEqual(owners(rows, 110), by_words(rows, 110), rows)

    def test_more_than_one_less_than_its_share_and_fewer_than_one_more(self):
        chance = random.Random(8)
        for _ in range(60):
            rows = [(group, chance.randrange(1, 10)) for group in "abcd"[:chance.randrange(1, 5)]]
            whole = sum(share for _, share in rows)
            found = owners(rows, 120)
            for group, share in rows:
                for many in range(121):
                    owned = found[:many].count(group)
                    self.assertGreater(owned * whole, share * many - whole, rows)
                    self.assertLess(owned * whole, share * many + whole, rows)

    def test_the_first_slots_of_more(self):
        rows = [("a", 4), ("b", 3), ("c", 2)]
        for many in range(30):
            self.assertEqual(owners(rows, many), owners(rows, 40)[:many])


class TestRefused(SharesCase):
    def test_no_list(self):
        for thing in odd_things() + ["a", 1, (("a", 1),)]:
            self.refused(thing, 0)

    def test_none(self):
        self.refused([], 0)
        self.refused([], 0, many=0)

    def test_the_fifth(self):
        rows = [("a", 1), ("b", 1), ("c", 1), ("d", 1)]
        self.assertEqual(len(owners(rows, 4)), 4)
        self.refused(rows + [("e", 1)], 4)
        self.refused(rows + [("e", 1), ("f", 1)], 4)
        self.refused(rows + [None], 4)

    def test_rows_that_are_none(self):
        for thing in odd_things() + ["ab", 1, ["a", 1], ("a",), ("a", 1, 1), "a"]:
            self.refused([thing], 0)
            self.refused([("a", 1), thing], 1)
            self.refused([("a", 1), ("b", 2), ("c", 3), thing], 3)

    def test_groups_that_are_no_words(self):
        for thing in odd_things() + ["", "A", "a b", "ninesigns", "a1", 1]:
            self.refused([("a", 1), (thing, 1)], 1)
        self.assertEqual(owners([("eightsig", 1)], 1), ["eightsig"])

    def test_shares_beyond_their_bounds(self):
        for thing in odd_things() + [0, 10, -1, "1", 10 ** 30]:
            self.refused([("a", 1), ("b", thing)], 1)

    def test_groups_that_stand_ahead(self):
        self.refused([("a", 1), ("a", 1)], 1)
        self.refused([("a", 1), ("b", 2), ("a", 3)], 2)

    def test_the_first_that_is_wrong(self):
        self.refused([("a", 0), ("a", 1), None], 0)
        self.refused([("a", 1), None, ("a", 1)], 1)


class TestWhatIsTold(SharesCase):
    def test_what_was_handed_in_stays(self):
        rows = [("a", 4), ("b", 3)]
        before = copy.deepcopy(rows)
        owners(rows, 9)
        self.assertEqual(rows, before)

    def test_is_the_askers_own(self):
        rows = [("a", 4), ("b", 3)]
        found = owners(rows, 9)
        same = list(found)
        found.clear()
        self.assertEqual(owners(rows, 9), same)


if __name__ == "__main__":
    unittest.main()
