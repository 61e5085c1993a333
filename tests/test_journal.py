"""Point [102]: the journal's text, and the keeper made of it; of [11] that it goes on as that one would."""

import copy
import unittest

from keeper_by_words import told_by_keeper
from odd_things import odd_things
from placedworks import errors
from placedworks.journal import keeper_of, show_journal
from placedworks.keeper import Keeper
from wrong_machines import refused_by

MACHINES = [("ma", 2), ("mb", 1)]
WEB = ("wish", "web", "front", 2, 1, 0, 2)
TEXT = (
    "deed wish web front 2 1 0 2\n"
    "beat ma 1 1 0\n"
    "turn 1\n"
    "beat ma 1 2 1 1+ 3-\n"
    "asks d 3\n"
    "deed store s web\n"
    "turn 4\n"
    "asks door 1\n"
)


class JournalCase(unittest.TestCase):
    def no_row(self, text, at, machines=MACHINES):
        with self.assertRaises(errors.PlaceError) as caught:
            keeper_of(machines, text)
        self.assertIs(caught.exception.__class__, errors.NoRow, text)
        self.assertEqual(caught.exception.at, at, text)

    def is_read(self, text):
        self.assertEqual(show_journal(keeper_of(list(MACHINES), text)), text)


class TestWritten(JournalCase):
    def test_of_a_new_keeper(self):
        self.assertEqual(show_journal(Keeper(MACHINES)), "")

    def test_rows_of_each_word(self):
        keeper = Keeper(MACHINES)
        keeper.tell(("deed", WEB))
        keeper.tell(("beat", ("ma", 1, 1, 0, [])))
        keeper.turn(1)
        keeper.tell(("beat", ("ma", 1, 2, 1, [(1, True), (3, False)])))
        keeper.tell(("asks", "d", 3))
        keeper.tell(("deed", ("store", "s", "web")))
        keeper.turn(4)
        keeper.tell(("asks", "door", 1))
        self.assertEqual(show_journal(keeper), TEXT)
        self.assertEqual(keeper.journal(), [
            ("deed", WEB), ("beat", ("ma", 1, 1, 0, [])), ("turn", 1),
            ("beat", ("ma", 1, 2, 1, [(1, True), (3, False)])), ("asks", "d", 3), ("deed", ("store", "s", "web")),
            ("turn", 4), ("asks", "door", 1),
        ])

    def test_rows_that_change_nothing_stand_there_too(self):
        keeper = Keeper(MACHINES)
        for _ in range(2):
            keeper.tell(("beat", ("ma", 1, 1, 0, [(2, True)])))
            keeper.tell(("deed", ("back", "web")))
        self.assertEqual(keeper.turn(3)[0], ["refused", "refused"])
        self.assertEqual(show_journal(keeper), "beat ma 1 1 0 2+\ndeed back web\n" * 2 + "turn 3\n")

    def test_deeds_of_rules_do_not_stand_there(self):
        keeper = Keeper(MACHINES)
        rows = [WEB, ("door", "d", "web"), ("rule", "r", "d", 2, 1, 0)]
        for deed in rows:
            keeper.tell(("deed", deed))
        keeper.tell(("asks", "d", 2))
        keeper.turn(1)
        self.assertEqual(keeper.journal(), [("deed", deed) for deed in rows] + [("asks", "d", 2), ("turn", 1)])
        self.assertEqual(keeper_of(MACHINES, show_journal(keeper)).book().log()[-1], ("r", ("copies", "web", 1, 0)))


class TestRead(JournalCase):
    def test_the_keeper_tells_the_same(self):
        keeper = keeper_of(list(MACHINES), TEXT)
        self.assertIsInstance(keeper, Keeper)
        self.assertEqual(show_journal(keeper), TEXT)
        self.assertEqual(keeper.planned(), [(1, "web", "front", 1, 0, 2, "ma")])
        self.assertEqual(keeper.all_leases(), [("s", 1, 1, 10)])

    def test_the_empty_text(self):
        self.assertEqual(told_by_keeper(keeper_of(MACHINES, "")), told_by_keeper(Keeper(MACHINES)))

    def test_rows_that_wait_wait_on(self):
        text = "beat ma 1 1 0\ndeed wish web front 1 0 0 2\nasks d 2\n"
        keeper = keeper_of(MACHINES, text)
        self.assertEqual(keeper.planned(), [])
        self.assertEqual(keeper.turn(1), (["done"], [("ma", (1, 1, [(1, "web", "front", 1, 0, 2)], []))]))

    def test_written_and_read_at_each_turn(self):
        keeper, other = Keeper(MACHINES), Keeper(MACHINES)
        for turn in range(1, 15):
            rows = [("beat", ("ma", 1, turn, turn - 1, [(1, turn % 3 > 0)])), ("asks", "d", turn)]
            rows += [("beat", ("mb", turn, turn, 0, []))] if turn % 5 else []
            rows += [("deed", WEB), ("deed", ("store", "s", "web")), ("deed", ("door", "d", "web")),
                     ("deed", ("rule", "r", "d", 9, 1, 0))] if turn == 1 else []
            for row in rows:
                keeper.tell(row)
                other.tell(row)
                other = keeper_of(MACHINES, show_journal(other))
            self.assertEqual(told_by_keeper(other), told_by_keeper(keeper))
            self.assertEqual(other.turn(turn), keeper.turn(turn))
            other = keeper_of(MACHINES, show_journal(other))
            self.assertEqual(told_by_keeper(other), told_by_keeper(keeper))

    def test_numbers_of_ten_figures(self):
        self.is_read("beat ma 9999999999 9999999998 9999999997 1000000000+ 9999999999-\n")
        self.is_read("asks d 9999999999\nturn 9999999999\n")
        for text in ("beat ma 10000000000 1 0", "beat ma 1 10000000000 0", "beat ma 1 1 10000000000",
                     "beat ma 1 1 0 10000000000+", "asks d 10000000000", "turn 10000000000"):
            self.no_row(text + "\n", 0)

    def test_bounds(self):
        self.is_read("turn 1\n")
        self.no_row("turn 0\n", 0)
        self.is_read("asks d 1\nasks abcdefgh 41\n")
        self.no_row("asks d 0\n", 0)
        self.is_read("beat ma 1 1 0 1- 2+ 10-\n")


class TestRefused(JournalCase):
    def test_machines_first(self):
        refused_by(self, errors.BadBerths, lambda machines: keeper_of(machines, "nothing"))
        refused_by(self, errors.BadBerths, lambda machines: keeper_of(machines, None))

    def test_no_text(self):
        for thing in odd_things() + [1, ["turn 1"], ("turn", 1)]:
            self.no_row(thing, 0)

    def test_signs_behind_the_last_line_feed(self):
        self.no_row("turn 1", 0)
        self.no_row("turn 1\n ", 1)
        self.no_row(TEXT + "turn 5", 8)
        self.no_row(TEXT + "x", 8)
        # A wrong row ahead goes first.
        self.no_row("turn 1\nturn 1\nx", 1)

    def test_rows_that_are_none(self):
        for row in ("", " ", "turn", "turn ", "turn  1", " turn 1", "turn 1 ", "turn 01", "turn +1", "turn -1", "turn x",
                    "turn 1 2", "Turn 1", "turns 1", "turn\t1", "turn 1.0", "turn 1_0",
                    "asks", "asks ", "asks d", "asks d ", "asks d  3", "asks  d 3", "asks d 03", "asks d 3 ", "asks D 3",
                    "asks toolonggg 3", "asks 3", "asks d 3 4", "asks d three", "asks d -3", "ask d 3",
                    "deed", "deed ", "deed  back web", "deed back", "deed back web ", "deed copies web 2 2",
                    "deed group day 10", "deed group day 01", "deed Back web", "back web",
                    "beat", "beat ", "beat ma", "beat ma 1 1", "beat ma 1 1 0 ", "beat  ma 1 1 0", "beat ma  1 1 0",
                    "beat mc 1 1 0", "beat Ma 1 1 0", "beat ma 01 1 0", "beat ma 1 01 0", "beat ma 1 1 00", "beat ma 1 1 x",
                    "beat ma 1 1 0 1", "beat ma 1 1 0 +", "beat ma 1 1 0 -", "beat ma 1 1 0 1 +", "beat ma 1 1 0 1*",
                    "beat ma 1 1 0 01+", "beat ma 1 1 0 1++", "beat ma 1 1 0 +1", "beat ma 1 1 0 1+2-", "beat ma 1 1 0  1+",
                    "beat ma 1 1 0 1+ ", "beat ma 1 1 0 2+ 1+", "beat ma 1 1 0 1+ 1-", "beat ma 1 1 0 1+ 3- 2+",
                    "beat ma 1 1 0 x+", "beat ma -1 1 0", "hand back web", "nothing 1"):
            self.no_row(row + "\n", 0)
            self.no_row("turn 3\nasks d 1\n" + row + "\nturn 1\n", 2)

    def test_turns_rise(self):
        self.no_row("turn 1\nturn 1\n", 1)
        self.no_row("turn 5\nasks d 2\nturn 4\n", 2)
        self.no_row("turn 2\nturn 3\nturn 2\nx\n", 2)
        self.is_read("turn 2\nturn 3\nturn 9\n")

    def test_rows_put_otherwise_left_out_twice_and_exchanged(self):
        rows = TEXT.split("\n")[:-1]
        self.is_read("\n".join(rows[1:]) + "\n")
        self.is_read("\n".join(rows[:1] + rows) + "\n")
        self.is_read("\n".join([rows[1], rows[0]] + rows[2:]) + "\n")
        self.no_row("\n".join(rows[:3] + rows[2:]) + "\n", 3)
        self.no_row("\n".join(rows[:2] + [rows[6]] + rows[3:6] + [rows[2]]) + "\n", 6)
        self.no_row(TEXT + TEXT, 10)

    def test_of_other_machines(self):
        self.no_row(TEXT, 1, [("mb", 1)])
        self.no_row(TEXT.replace("ma", "mc", 2), 1)

    def test_a_refused_deed_is_a_row_all_the_same(self):
        self.assertEqual(keeper_of(MACHINES, "deed back web\n").turn(1)[0], ["refused"])


class TestWhatIsTold(JournalCase):
    def test_what_is_handed_in_stays(self):
        machines = list(MACHINES)
        keeper = keeper_of(machines, TEXT)
        self.assertEqual(machines, MACHINES)
        before = copy.deepcopy(told_by_keeper(keeper))
        machines.clear()
        show_journal(keeper)
        self.assertEqual(told_by_keeper(keeper), before)

    def test_the_new_one_knows_nothing_of_the_other(self):
        keeper = keeper_of(MACHINES, TEXT)
        other = keeper_of(MACHINES, show_journal(keeper))
        before = copy.deepcopy(told_by_keeper(other))
        keeper.tell(("deed", ("end", "store", "s")))
        keeper.turn(5)
        self.assertEqual(told_by_keeper(other), before)


if __name__ == "__main__":
    unittest.main()
