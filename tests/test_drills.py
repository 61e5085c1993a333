"""Point [112]: drills; of [3] and [4] that the house stays as it is."""

import copy
import unittest

from house_by_chance import played
from house_by_words import told_by_house
from odd_things import odd_things
from placedworks import errors
from placedworks.drills import drill
from placedworks.house import House
from placedworks.pages import show_page

MACHINES = [("ma", 2), ("mb", 1)]
FIRST = [("rise", "ma"), ("rise", "mb"), ("deed", ("wish", "web", "front", 1, 0, 0, 2)), ("deed", ("store", "s", "web"))]


def told(house):
    return copy.deepcopy((told_by_house(house), house.played()))


class DrillCase(unittest.TestCase):
    def setUp(self):
        self.house = House(list(MACHINES))
        self.house.play(list(FIRST))
        for _ in range(4):
            self.house.play([])

    def drilled(self, turns):
        before = told(self.house)
        page = drill(self.house, turns)
        self.assertEqual(told(self.house), before)
        return page


class TestDrills(DrillCase):
    def test_by_no_turns(self):
        self.assertEqual(self.drilled([]), show_page(self.house))
        self.assertEqual(drill(House(MACHINES), []), show_page(House(MACHINES)))

    def test_by_one_turn_and_by_several(self):
        turns = [[("fall", "ma"), ("write", "s", "x")], [], [("deed", ("copies", "web", 2, 1))], [("rise", "ma")], [], []]
        pages = [self.drilled(turns[:many]) for many in range(len(turns) + 1)]
        for at, rows in enumerate(turns):
            self.assertEqual(pages[at], show_page(self.house))
            self.house.play(rows)
        self.assertEqual(pages[-1], show_page(self.house))
        self.assertEqual(len(set(pages)), len(pages))

    def test_twice_the_same(self):
        turns = [[("fall", "ma")]] + [[]] * 9
        page = self.drilled(turns)
        self.assertEqual(self.drilled(turns), page)
        self.assertIn("machine ma 2 1 fallen\nmachine mb 1 1 stands\ncopy 2 web front 1 answering\n", page)
        self.assertIn("copy 1 web front 1 answering\n", show_page(self.house))

    def test_of_a_house_whose_keeper_is_down(self):
        self.house.play([("down",), ("deed", ("end", "store", "s"))])
        self.assertIn("store s web 0\n", self.drilled([[]]))
        self.assertNotIn("store", self.drilled([[("up",)]]))

    def test_by_chance(self):
        for place, case, house, rows in played(range(30), 20):
            before = told(house)
            page = drill(house, [rows])
            self.assertEqual(told(house), before, place)
            house.play(rows)
            self.assertEqual(page, show_page(house), place)


class TestRefused(DrillCase):
    def refused(self, turns, at):
        before = told(self.house)
        with self.assertRaises(errors.PlaceError) as caught:
            drill(self.house, turns)
        self.assertIs(caught.exception.__class__, errors.BadRow)
        self.assertEqual(caught.exception.at, at)
        self.assertEqual(told(self.house), before)

    def test_with_a_row_that_is_none(self):
        self.refused([[("rise", "mc")]], 0)
        self.refused([[("fall", "ma")], [("rise", "ma"), ("again",), ("rise", "Ma")]], 2)
        self.refused([[], [("late", "ma", 3)], [("x",), ("x",)]], 0)

    def test_with_what_is_no_list(self):
        for thing in odd_things():
            self.refused([[("fall", "ma")], thing], 0)
            self.refused([[("fall", "ma"), thing]], 1)


class TestWhatIsTold(DrillCase):
    def test_what_is_handed_in_stays(self):
        turns = [[("fall", "ma"), ("write", "s", "x")], []]
        self.drilled(turns)
        self.assertEqual(turns, [[("fall", "ma"), ("write", "s", "x")], []])
        turns[0].clear()
        turns.clear()
        self.assertEqual(self.drilled([]), show_page(self.house))

    def test_the_house_goes_on_as_it_would(self):
        other = House(list(MACHINES))
        for rows in self.house.played():
            other.play(rows)
        self.drilled([[("fall", "ma"), ("fall", "mb")], [("down",)]])
        for rows in ([("write", "s", "x")], [("fall", "ma")], [], [], []):
            self.assertEqual(self.house.play(rows), other.play(rows))
            self.assertEqual(told(self.house), told(other))


if __name__ == "__main__":
    unittest.main()
