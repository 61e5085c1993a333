"""What posts need of machines with room [71] and of ways [44, 45]."""

import copy
import unittest

from placedworks.moves import machine_for, step_for


class TestMachineFor(unittest.TestCase):
    def test_the_most_free_berths(self):
        berths = [("ma", 3), ("mb", 4), ("mc", 2)]
        self.assertEqual(machine_for(berths, [], "x"), "mb")
        self.assertEqual(machine_for(berths, [(1, "y", "mb"), (2, "z", "mb")], "x"), "ma")

    def test_of_several_the_least_by_name(self):
        self.assertEqual(machine_for([("ma", 1), ("mb", 2), ("mc", 2)], [], "x"), "mb")

    def test_none_with_the_kind(self):
        self.assertEqual(machine_for([("ma", 5), ("mb", 1)], [(1, "x", "ma")], "x"), "mb")
        self.assertIsNone(machine_for([("ma", 5), ("mb", 2)], [(1, "x", "ma"), (2, "x", "mb")], "x"))

    def test_none_without_a_free_berth(self):
        self.assertIsNone(machine_for([("ma", 1), ("mb", 0)], [(1, "y", "ma")], "x"))
        self.assertIsNone(machine_for([], [], "x"))


class TestStepFor(unittest.TestCase):
    def test_the_last_of_the_way(self):
        berths = [("ma", 1), ("mb", 2), ("mc", 3)]
        lying = [(1, "y", "ma"), (2, "x", "mb"), (3, "z", "mb"), (4, "x", "mc"), (5, "y", "mc")]
        before = copy.deepcopy((berths, lying))
        self.assertEqual(step_for(berths, lying, "x"), (3, "mc"))
        self.assertEqual((berths, lying), before)

    def test_no_way(self):
        self.assertIsNone(step_for([("ma", 1), ("mb", 1)], [(1, "y", "ma"), (2, "x", "mb")], "x"))


if __name__ == "__main__":
    unittest.main()
