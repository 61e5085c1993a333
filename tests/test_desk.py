"""Point [108]: the desk; of [3] and [4] what is told of desks."""

import copy
import unittest

from house_by_chance import played
from house_by_words import told_by_house
from odd_things import odd_things
from placedworks import errors
from placedworks.chronicle import house_of, show_chronicle
from placedworks.desk import Desk
from placedworks.happenings import show_happening
from placedworks.house import House
from wrong_machines import refused_by

MACHINES = [("ma", 2), ("mb", 1)]
FIRST = ["rise ma", "rise mb", "deed wish web front 2 1 0 2", "deed store s web", "deed group day 2", "deed door d web"]


def told(desk):
    return copy.deepcopy((told_by_house(desk.house()), desk.house().played()))


class DeskCase(unittest.TestCase):
    def setUp(self):
        self.desk = Desk(list(MACHINES))

    def says(self, row, answer):
        self.assertEqual(self.desk.say(row), answer, row)

    def kept(self, *rows):
        for row in rows:
            self.says(row, "kept")

    def turns(self, many):
        for _ in range(many):
            self.says("turn", "none")

    def refused(self, row, kind=errors.NoLine, name=None):
        before = told(self.desk)
        with self.assertRaises(errors.PlaceError) as caught:
            self.desk.say(row)
        self.assertIs(caught.exception.__class__, kind)
        if name is not None:
            self.assertEqual(caught.exception.name, name)
        self.assertEqual(told(self.desk), before)

    def begin(self):
        """From the turn behind these on copies 1, on ma, and 2, on mb, answer, and 1 may write."""
        self.kept(*FIRST)
        self.says("turn", "yes, yes, -, -, -, -")
        self.turns(3)


class TestMaking(DeskCase):
    def test_at_first(self):
        self.assertIsInstance(self.desk.house(), House)
        self.assertEqual(told(self.desk), copy.deepcopy((told_by_house(House(MACHINES)), [])))
        self.assertIs(self.desk.house(), self.desk.house())

    def test_wrong_machines(self):
        refused_by(self, errors.BadBerths, Desk)

    def test_answers_at_first(self):
        for row, answer in [("runs", "none"), ("lies ma", "none"), ("rows s", "0"), ("falls", "0"), ("chronicle", ""),
                            ("forget", "0"), ("turn", "none")]:
            self.says(row, answer)


class TestHappenings(DeskCase):
    def test_they_wait_for_the_turn(self):
        self.kept("rise ma", "fall ma", "rise ma", "again")
        self.assertEqual(self.desk.house().turn(), 0)
        self.says("turn", "yes, yes, yes, -")
        self.assertEqual(self.desk.house().played(), [[("rise", "ma"), ("fall", "ma"), ("rise", "ma"), ("again",)]])
        self.says("turn", "none")
        self.assertEqual(self.desk.house().turn(), 2)

    def test_of_each_word(self):
        self.kept("rise ma", "fall ma", "cut ma", "join ma", "late ma 2", "twice ma yes", "fail 0", "ask d day 3",
                  "write s two words", "write s ", "deed back web", "deed empty zz", "down", "up", "again")
        self.says("turn", "yes, yes, -, -, -, -, no, -, -, -, -, -, -, -, -")

    def test_forget(self):
        self.says("forget", "0")
        self.kept("rise ma")
        self.says("forget", "1")
        self.says("forget", "0")
        self.kept("rise ma", "rise mb", "again")
        self.says("forget", "3")
        self.says("turn", "none")
        self.assertEqual(self.desk.house().played(), [[]])

    def test_truths_numbers_pairs_and_none(self):
        self.begin()
        self.kept("rise ma", "ask d day 7", "ask d day 40", "ask d day 1", "ask d noon 1", "write s x", "write s ", "fail 2",
                  "write t x", "fail 2", "twice mb no")
        self.says("turn", "no, 7, 33, 0, -, 1 0, 1 1, yes, -, no, -")

    def test_as_the_house_tells(self):
        for place, case, house, rows in played(range(30), 25):
            if place[1] == 0:
                desk = Desk(list(case.machines))
            for row in rows:
                self.assertEqual(desk.say(show_happening(row)), "kept")
            answers = []
            for answer in house.play(rows):
                words = {True: "yes", False: "no"} if isinstance(answer, bool) else {None: "-"}
                if isinstance(answer, tuple):
                    words = {answer: f"{answer[0]} {answer[1]}"}
                answers.append(words.get(answer, str(answer)))
            self.assertEqual(desk.say("turn"), ", ".join(answers) or "none", place)
            self.assertEqual(told_by_house(desk.house()), told_by_house(house), place)
            runs, book = dict(house.keeper().runs()), house.keeper().book()
            wishes = [f"{wish} {runs[wish]} {book.wish(wish)['copies']}" for wish in book.wishes()]
            self.assertEqual(desk.say("runs"), ", ".join(wishes) or "none", place)
            for wish in book.wishes():
                lack = house.keeper().shortage_of(wish)
                self.assertEqual(desk.say("short " + wish), " ".join(map(str, lack)) if lack else "none", place)
            falls = house.keeper().falls()
            self.assertEqual(desk.say("falls"), "none" if falls is None else str(falls[0]), place)
            self.assertEqual(desk.say("chronicle"), show_chronicle(house), place)


class TestQuestions(DeskCase):
    def test_runs(self):
        self.begin()
        self.says("runs", "web 2 2")
        self.kept("deed wish db back 3 0 0 1", "deed rank db 0", "deed wish aux side 0 0 0 1")
        self.says("runs", "web 2 2")
        self.says("turn", "-, -, -")
        self.says("runs", "db 2 3, web 1 2, aux 0 0")

    def test_runs_while_the_keeper_is_down(self):
        self.kept("deed wish web front 2 1 0 2", "down")
        self.says("turn", "-, -")
        self.says("runs", "none")
        self.kept("up")
        self.says("turn", "-")
        # No machine was heard yet.
        self.says("runs", "web 0 2")

    def test_short(self):
        self.begin()
        self.says("short web", "none")
        self.kept("deed copies web 4 0")
        self.says("turn", "-")
        self.says("short web", "1 3 2")
        self.kept("deed wish db back 2 0 0 1")
        self.says("turn", "-")
        self.says("short db", "2 4 3")

    def test_lies(self):
        self.kept(*FIRST)
        self.says("turn", "yes, yes, -, -, -, -")
        self.turns(1)
        self.says("lies ma", "none")
        self.turns(1)
        self.says("lies ma", "1 answering")
        self.kept("fail 1", "deed wish db back 1 0 2 1")
        self.says("turn", "yes, -")
        self.says("lies ma", "1 starting")
        self.turns(1)
        self.says("lies ma", "1 answering, 3 starting")
        self.says("lies mb", "2 answering")
        self.kept("fall ma")
        self.says("turn", "yes")
        self.says("lies ma", "none")

    def test_rows(self):
        self.begin()
        self.says("rows s", "0")
        self.kept("write s x", "write s y")
        self.says("turn", "1 0, 1 1")
        self.says("rows s", "0")
        self.turns(1)
        self.says("rows s", "2")
        self.says("rows never", "0")
        self.kept("deed end store s")
        self.says("turn", "-")
        self.says("rows s", "2")

    def test_falls(self):
        self.begin()
        self.says("falls", "0")
        self.kept("deed copies web 1 0")
        self.says("turn", "-")
        self.says("falls", "1")
        self.kept("deed copies web 0 0")
        self.says("turn", "-")
        self.says("falls", "2")
        self.kept("deed copies web 3 0")
        self.says("turn", "-")
        self.says("falls", "none")

    def test_chronicle(self):
        self.kept("rise ma", "write s ")
        self.says("chronicle", "")
        self.says("turn", "yes, -")
        self.turns(1)
        self.kept("again")
        text = "rise ma\nwrite s \nturn\nturn\n"
        self.says("chronicle", text)
        self.assertEqual(told_by_house(house_of(MACHINES, text)), told_by_house(self.desk.house()))

    def test_they_change_nothing(self):
        self.begin()
        self.kept("fall mb")
        before = told(self.desk)
        for row in ("runs", "short web", "lies ma", "rows s", "falls", "chronicle"):
            self.assertEqual(self.desk.say(row), self.desk.say(row))
        self.assertEqual(told(self.desk), before)
        self.says("turn", "yes")


class TestRefused(DeskCase):
    def setUp(self):
        super().setUp()
        self.begin()

    def test_whatever_is_no_text(self):
        for thing in odd_things() + [1, ["turn"], ("rise", "ma")]:
            self.refused(thing)

    def test_rows_that_are_none(self):
        for row in (
            "", " ", "x", "turn ", " turn", "turn 1", "Turn", "turn\n", "forget 1", "forget ", "runs ", "runs web", "falls 1",
            "chronicle ", "short", "short ", "short  web", "short web ", "short Web", "short web db", "short toolongss",
            "short 1", "lies", "lies ", "lies ma mb", "lies Ma", "lies m1", "lies ma\n", "rows", "rows ", "rows s t", "rows S",
            "rows 1", "rise", "rise ma ", "late ma 3", "twice ma True", "fail 01", "fail 10000000000", "ask d day 41",
            "write s", "write s thirteen sign", "write s a\nb", "deed back", "deed", "kept", "none", "turn\nturn",
        ):
            self.refused(row)

    def test_happenings_of_machines_that_the_house_has_not(self):
        for row in ("rise mc", "fall mc", "cut mc", "join mc", "late mc 1", "twice mc no"):
            self.refused(row)
        self.says("forget", "0")

    def test_unknown_names(self):
        for name in ("db", "ma", "s", "zz"):
            self.refused("short " + name, errors.Unknown, name)
        for name in ("mc", "web", "zz"):
            self.refused("lies " + name, errors.Unknown, name)

    def test_a_wish_that_is_ended_is_unknown(self):
        self.kept("deed wish db back 1 0 0 1")
        self.says("turn", "-")
        self.says("short db", "none")
        self.kept("deed end wish db")
        self.says("turn", "-")
        self.refused("short db", errors.Unknown, "db")

    def test_what_waits_stays_where_a_row_is_refused(self):
        self.kept("fall ma", "again")
        self.refused("rise mc")
        self.refused("x")
        self.refused("short zz", errors.Unknown, "zz")
        self.says("forget", "2")


class TestWhatIsTold(DeskCase):
    def test_machines_may_be_changed_behind(self):
        machines = list(MACHINES)
        desk = Desk(machines)
        machines.clear()
        self.assertEqual(desk.say("rise mb"), "kept")
        self.assertEqual(desk.say("turn"), "yes")

    def test_two_know_nothing_of_each_other(self):
        other = Desk(MACHINES)
        before = told(other)
        self.kept("rise ma")
        self.says("turn", "yes")
        self.kept("again")
        self.assertEqual(told(other), before)
        self.assertEqual(other.say("forget"), "0")


if __name__ == "__main__":
    unittest.main()
