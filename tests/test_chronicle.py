"""Point [107]: the chronicle; of [11] that a house made of it tells all that that one tells."""

import copy
import unittest

from house_by_chance import played
from house_by_words import told_by_house
from odd_things import odd_things
from placedworks import errors
from placedworks.chronicle import house_of, show_chronicle
from placedworks.house import House
from wrong_machines import refused_by

MACHINES = [("ma", 2), ("mb", 1)]
TURNS = [
    [("rise", "ma"), ("deed", ("wish", "web", "front", 2, 1, 0, 2)), ("deed", ("store", "s", "web"))],
    [],
    [("twice", "ma", True), ("late", "ma", 1), ("write", "s", " a b ")],
    [("again",), ("fail", 3), ("ask", "d", "day", 40), ("write", "s", "")],
]
TEXT = (
    "rise ma\ndeed wish web front 2 1 0 2\ndeed store s web\nturn\n"
    "turn\n"
    "twice ma yes\nlate ma 1\nwrite s  a b \nturn\n"
    "again\nfail 3\nask d day 40\nwrite s \nturn\n"
)


def told(house):
    return copy.deepcopy((told_by_house(house), house.played()))


def house_played(turns, machines=MACHINES):
    house = House(list(machines))
    for rows in turns:
        house.play(rows)
    return house


class ChronicleCase(unittest.TestCase):
    def no_row(self, text, at, machines=MACHINES):
        with self.assertRaises(errors.PlaceError) as caught:
            house_of(machines, text)
        self.assertIs(caught.exception.__class__, errors.NoRow)
        self.assertEqual(caught.exception.at, at, text)


class TestWritten(ChronicleCase):
    def test_of_no_turns(self):
        self.assertEqual(show_chronicle(House(MACHINES)), "")

    def test_of_turns_without_happenings(self):
        self.assertEqual(show_chronicle(house_played([[], [], []])), "turn\nturn\nturn\n")

    def test_of_turns(self):
        self.assertEqual(show_chronicle(house_played(TURNS)), TEXT)

    def test_refused_rows_do_not_stand_there(self):
        house = house_played(TURNS[:1])
        with self.assertRaises(errors.BadRow):
            house.play([("rise", "mb"), ("rise", "mc")])
        self.assertEqual(show_chronicle(house), TEXT.partition("turn\n")[0] + "turn\n")


class TestRead(ChronicleCase):
    def test_has_played_these_turns(self):
        house = house_of(list(MACHINES), TEXT)
        self.assertIsInstance(house, House)
        self.assertEqual(house.played(), TURNS)
        self.assertEqual(told(house), told(house_played(TURNS)))
        self.assertEqual(show_chronicle(house), TEXT)

    def test_of_no_turns(self):
        self.assertEqual(told(house_of(MACHINES, "")), told(House(MACHINES)))

    def test_of_turns_without_happenings(self):
        self.assertEqual(told(house_of(MACHINES, "turn\nturn\n")), told(house_played([[], []])))

    def test_tells_all_that_that_one_tells_and_goes_on_so(self):
        for place, case, house, rows in played(range(40), 30):
            house.play(rows)
            if place[1] % 10 == 9:
                machines = list(case.machines)
                other = house_of(machines, show_chronicle(house))
                self.assertEqual(told(other), told(house), place)
                self.assertEqual(machines, case.machines)
                more = case.rows([1, 2, 3])
                self.assertEqual(other.play(more), house.play(more), place)
                self.assertEqual(told(other), told(house), place)

    def test_rows_put_otherwise(self):
        rows = ["rise ma", "cut mb", "rise mb", "turn", "fall ma", "turn"]
        self.assertEqual(house_of(MACHINES, "cut mb\nturn\nrise ma\nrise mb\nfall ma\nturn\n").played(),
                         [[("cut", "mb")], [("rise", "ma"), ("rise", "mb"), ("fall", "ma")]])
        self.assertEqual(house_of(MACHINES, "\n".join(rows[1:]) + "\n").played(),
                         [[("cut", "mb"), ("rise", "mb")], [("fall", "ma")]])
        self.assertEqual(house_of(MACHINES, "\n".join(rows[:1] + rows) + "\n").played()[0][:2], [("rise", "ma")] * 2)


class TestRefused(ChronicleCase):
    def test_machines_first(self):
        refused_by(self, errors.BadBerths, lambda machines: house_of(machines, "nothing"))
        refused_by(self, errors.BadBerths, lambda machines: house_of(machines, None))

    def test_no_text(self):
        for thing in odd_things() + [1, ["turn"], []]:
            self.no_row(thing, 0)

    def test_rows_that_are_none(self):
        for row in ("", " ", "turn ", " turn", "turn 1", "Turn", "rise", "rise ma ", "late ma 3", "twice ma 1", "fail 01",
                    "fail 10000000000", "ask d day 41", "write s", "write s thirteen sign", "deed back", "again again",
                    "kept", "forget", "runs"):
            self.no_row(row + "\n", 0)
            self.no_row("turn\nrise ma\n" + row + "\nturn\nx\n", 2)

    def test_of_another_houses_machines(self):
        for row in ("rise mc", "fall mc", "cut mc", "join mc", "late mc 1", "twice mc no"):
            self.no_row("turn\n" + row + "\nturn\n", 1)
            self.assertEqual(house_of([("ma", 1), ("mc", 1)], "turn\n" + row + "\nturn\n").turn(), 2)
        self.no_row(TEXT, 0, [("mb", 1)])
        # A deed may be of whatever machine: it is refused by the book alone.
        self.assertEqual(house_of(MACHINES, "deed empty mc\nturn\n").words(), ["refused"])

    def test_something_behind_the_last_turn(self):
        self.no_row("rise ma\n", 1)
        self.no_row("turn\nrise ma\n", 2)
        self.no_row("turn\nrise ma\nfall ma\n", 3)
        self.no_row(TEXT + "again\n", 15)
        self.no_row(TEXT + "again", 14)
        self.no_row("turn", 0)
        self.no_row("turn\nturn", 1)
        self.no_row("turn\nrise ma", 1)
        self.no_row("turn\nrise ma\nturn", 2)
        self.no_row("turn\n ", 1)

    def test_a_wrong_row_ahead_goes_first(self):
        self.no_row("turn\nx\nrise ma\n", 1)
        self.no_row("turn\nrise ma\nx\n", 2)
        self.no_row("turn\nrise ma\nx\nrise ma\n", 2)
        self.no_row("x\nturn", 0)
        self.no_row("turn\nrise mc\nrise", 1)
        self.no_row("turn\nrise ma\nx", 2)


class TestWhatIsTold(ChronicleCase):
    def test_what_is_handed_in_stays(self):
        machines = list(MACHINES)
        house = house_of(machines, TEXT)
        self.assertEqual(machines, MACHINES)
        before = told(house)
        machines.clear()
        show_chronicle(house)
        self.assertEqual(told(house), before)

    def test_the_new_one_knows_nothing_of_the_other(self):
        house = house_of(MACHINES, TEXT)
        other = house_of(MACHINES, show_chronicle(house))
        before = told(other)
        house.play([("fall", "ma")])
        self.assertEqual(told(other), before)


if __name__ == "__main__":
    unittest.main()
