"""Points [80] and [81]: leases; of [3] and [4] what is told and refused."""

import copy
import unittest

from placedworks import errors
from placedworks.kinds import LEASE
from placedworks.leases import Leases


def told(leases):
    """All that leases tell, so that nothing that they do later can change it."""
    stores = ("s", "t", "u")
    return copy.deepcopy((
        leases.all_leases(), [leases.lease_of(store) for store in stores],
        [leases.token_of(store) for store in stores],
    ))


class LeasesCase(unittest.TestCase):
    def setUp(self):
        self.leases = Leases()

    def refused(self, until, doing):
        before = told(self.leases)
        with self.assertRaises(errors.PlaceError) as caught:
            doing()
        self.assertIs(caught.exception.__class__, errors.Early)
        self.assertEqual(caught.exception.until, until)
        self.assertEqual(told(self.leases), before)

    def give(self, turn, store="s", number=8):
        return self.leases.give(store, number, turn)

    def renew(self, turn, store="s"):
        return self.leases.renew(store, turn)


class TestGiving(LeasesCase):
    def test_at_first(self):
        self.assertEqual(self.leases.all_leases(), [])
        self.assertIsNone(self.leases.lease_of("s"))
        self.assertEqual(self.leases.token_of("s"), 0)

    def test_the_first(self):
        self.assertEqual(LEASE, 6)
        self.assertEqual(self.give(4, number=7), ("s", 1, 7, 10))
        self.assertEqual(self.leases.lease_of("s"), ("s", 1, 7, 10))
        self.assertEqual(self.leases.all_leases(), [("s", 1, 7, 10)])
        self.assertEqual(self.leases.token_of("s"), 1)

    def test_again_at_its_until_one_ahead_and_one_behind(self):
        self.give(4, number=7)
        self.refused(10, lambda: self.give(9))
        self.refused(10, lambda: self.give(9, number=7))
        self.refused(10, lambda: self.give(4))
        self.refused(10, lambda: self.give(1))
        self.assertEqual(self.give(10), ("s", 2, 8, 16))
        self.assertEqual(self.give(17), ("s", 3, 8, 23))
        self.assertEqual(self.leases.token_of("s"), 3)

    def test_of_several_stores(self):
        self.give(4, "t", 1)
        self.give(5, "s", 2)
        self.assertEqual(self.give(10, "t", 3), ("t", 2, 3, 16))
        self.assertEqual(self.leases.all_leases(), [("s", 1, 2, 11), ("t", 2, 3, 16)])
        self.assertEqual([self.leases.token_of(store) for store in "stu"], [1, 2, 0])
        self.refused(11, lambda: self.give(10, "s"))


class TestRenewing(LeasesCase):
    def test_runs_on(self):
        self.give(4)
        self.assertEqual(self.renew(5), ("s", 1, 8, 11))
        self.assertEqual(self.leases.lease_of("s"), ("s", 1, 8, 11))
        self.assertEqual(self.renew(10), ("s", 1, 8, 16))
        self.assertEqual(self.leases.token_of("s"), 1)

    def test_at_its_until_one_ahead_and_one_behind(self):
        self.give(4)
        self.refused(10, lambda: self.renew(10))
        self.refused(10, lambda: self.renew(11))
        self.assertEqual(self.renew(9), ("s", 1, 8, 15))

    def test_never_runs_shorter(self):
        self.give(4)
        self.assertEqual(self.renew(4), ("s", 1, 8, 10))
        self.assertEqual(self.renew(1), ("s", 1, 8, 10))

    def test_where_there_is_none(self):
        self.refused(0, lambda: self.renew(1))
        self.give(4, "t")
        self.refused(0, lambda: self.renew(5, "s"))

    def test_of_one_that_was_let_go(self):
        self.give(4)
        self.leases.let_go("s")
        for turn in (4, 5, 9, 10, 11):
            self.refused(10, lambda: self.renew(turn))

    def test_one_store_alone(self):
        self.give(4, "s")
        self.give(4, "t")
        self.renew(7, "t")
        self.assertEqual(self.leases.all_leases(), [("s", 1, 8, 10), ("t", 1, 8, 13)])


class TestLettingGo(LeasesCase):
    def test_told_is_whether_there_was_one(self):
        self.assertIs(self.leases.let_go("s"), False)
        self.give(4)
        self.assertIs(self.leases.let_go("t"), False)
        self.assertIs(self.leases.let_go("s"), True)
        self.assertIs(self.leases.let_go("s"), False)

    def test_is_told_no_more(self):
        self.give(4, "s")
        self.give(4, "t")
        self.leases.let_go("s")
        self.assertIsNone(self.leases.lease_of("s"))
        self.assertEqual(self.leases.all_leases(), [("t", 1, 8, 10)])
        self.assertEqual(self.leases.token_of("s"), 1)

    def test_given_again_at_once(self):
        for turn in (3, 4, 9, 10, 11):
            self.leases = Leases()
            self.give(4)
            self.leases.let_go("s")
            self.assertEqual(self.give(turn, number=2), ("s", 2, 2, turn + 6))
            self.assertEqual(self.leases.all_leases(), [("s", 2, 2, turn + 6)])
            self.assertEqual(self.leases.lease_of("s"), ("s", 2, 2, turn + 6))

    def test_the_new_one_is_not_let_go(self):
        self.give(4)
        self.leases.let_go("s")
        self.give(5)
        self.refused(11, lambda: self.give(10))
        self.assertEqual(self.renew(6), ("s", 2, 8, 12))
        self.assertIs(self.leases.let_go("s"), True)
        self.refused(12, lambda: self.renew(7))

    def test_one_that_has_run_out(self):
        self.give(4)
        self.refused(10, lambda: self.renew(30))
        self.assertEqual(self.leases.lease_of("s"), ("s", 1, 8, 10))
        self.assertEqual(self.leases.all_leases(), [("s", 1, 8, 10)])
        self.assertIs(self.leases.let_go("s"), True)
        self.assertEqual(self.leases.all_leases(), [])


class TestWhatIsTold(LeasesCase):
    def test_sorted(self):
        for store in ("t", "u", "s"):
            self.give(4, store)
        self.assertEqual([lease[0] for lease in self.leases.all_leases()], ["s", "t", "u"])

    def test_is_the_askers_own(self):
        self.give(4)
        before = told(self.leases)
        self.leases.all_leases().clear()
        self.assertEqual(told(self.leases), before)

    def test_questions_change_nothing(self):
        self.give(4)
        self.assertEqual(told(self.leases), told(self.leases))
        self.assertIsNone(self.leases.lease_of("t"))
        self.assertEqual(self.give(4, "t"), ("t", 1, 8, 10))

    def test_two_know_nothing_of_each_other(self):
        other = Leases()
        self.give(4)
        self.assertEqual(told(other), told(Leases()))
        self.assertEqual(other.give("s", 1, 2), ("s", 1, 1, 8))


if __name__ == "__main__":
    unittest.main()
