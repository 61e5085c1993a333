"""Points [103] to [105]: the house; of [3], [4], [8], [9] and [11] what is told of houses."""

import copy
import unittest

from house_by_words import told_by_house
from odd_things import odd_things
from placedworks import errors
from placedworks.house import House, heal
from placedworks.journal import keeper_of, show_journal
from placedworks.keeper import Keeper
from placedworks.machine import Machine
from placedworks.shares import owners
from wrong_machines import EIGHT, refused_by

MACHINES = [("ma", 2), ("mb", 2)]
WEB = ("wish", "web", "front", 2, 1, 0, 2)
FIRST = [("rise", "ma"), ("rise", "mb"), ("deed", WEB), ("deed", ("store", "s", "web")), ("deed", ("group", "day", 2)),
         ("deed", ("group", "night", 1)), ("deed", ("door", "d", "web"))]


def told(house):
    return copy.deepcopy((told_by_house(house), house.played()))


class HouseCase(unittest.TestCase):
    """A house whose copies 1, on ma, and 2, on mb, answer from turn 3 on; from turn 5 on copy 1 may write."""

    machines = MACHINES
    first = FIRST
    quiet = 0

    def setUp(self):
        self.house = House(list(self.machines))
        if self.first:
            self.house.play(list(self.first))
        self.wait(self.quiet)

    def wait(self, turns):
        for _ in range(turns):
            self.house.play([])

    def play(self, *rows):
        return self.house.play(list(rows))

    def lies(self, name):
        return [(number, state) for number, _, _, _, state in self.house.machine(name).lying()]

    def refused(self, rows, at):
        before = told(self.house)
        with self.assertRaises(errors.PlaceError) as caught:
            self.house.play(rows)
        self.assertIs(caught.exception.__class__, errors.BadRow)
        self.assertEqual(caught.exception.at, at)
        self.assertEqual(told(self.house), before)


class TestHeal(unittest.TestCase):
    def test_by_words(self):
        self.assertEqual(heal(0, 0), 21)
        self.assertEqual(heal(0, 8), 21)
        self.assertEqual(heal(1, 0), 39)
        self.assertEqual(heal(1, 1), 57)
        self.assertEqual(heal(3, 2), 3 + 9 * (12 + 6 + 2))
        self.assertEqual(heal(48, 8), 3 + 9 * (768 + 96 + 2))


class TestMaking(HouseCase):
    first = []

    def test_at_first(self):
        self.assertEqual((self.house.turn(), self.house.is_up(), self.house.many()), (0, True, 0))
        self.assertEqual((self.house.writes(), self.house.led(), self.house.words(), self.house.played()),
                         ([], [], [], []))
        self.assertEqual(self.house.rows_of("s"), [])
        for name, berths in MACHINES:
            machine = self.house.machine(name)
            self.assertIsInstance(machine, Machine)
            self.assertEqual((machine.called(), machine.berths(), machine.stands(), machine.life()),
                             (name, berths, False, 0))
            self.assertIs(self.house.is_cut(name), False)
        self.assertIsInstance(self.house.keeper(), Keeper)
        self.assertEqual(self.house.keeper().journal(), [])

    def test_of_eight_machines(self):
        house = House(list(EIGHT))
        self.assertEqual(house.play([("rise", name) for name, _ in EIGHT]), [True] * 8)
        self.assertEqual(house.many(), 8)

    def test_wrong_machines(self):
        refused_by(self, errors.BadBerths, House)


class TestTurns(HouseCase):
    def test_the_first_turns(self):
        house = self.house
        self.assertEqual((house.turn(), house.words(), house.many()), (1, ["done"] * 5, 2))
        self.assertEqual(house.keeper().planned(), [])
        self.play()
        self.assertEqual((house.turn(), house.words()), (2, []))
        self.assertEqual([row[0] for row in house.keeper().planned()], [1, 2])
        self.assertEqual((self.lies("ma"), self.lies("mb")), ([], []))
        # Beats of turn 2, and sheets.
        self.assertEqual(house.many(), 4)
        self.play()
        self.assertEqual((self.lies("ma"), self.lies("mb")), ([(1, "answering")], [(2, "answering")]))
        self.assertEqual(house.keeper().all_leases(), [])
        self.play()
        self.assertEqual(house.keeper().all_leases(), [("s", 1, 1, 10)])
        self.assertEqual(house.machine("ma").leases(), [])
        self.play()
        self.assertEqual(house.machine("ma").leases(), [("s", 1, 1, 10)])
        self.assertEqual(house.machine("ma").lease_at("s", 5), (1, 1))

    def test_what_is_told_of_each_happening(self):
        self.wait(4)
        self.assertEqual(self.play(
            ("rise", "ma"), ("fall", "mb"), ("fall", "mb"), ("rise", "mb"), ("cut", "mb"), ("join", "mb"),
            ("late", "mb", 1), ("twice", "mb", True), ("fail", 1), ("fail", 1), ("ask", "d", "day", 3),
            ("ask", "d", "noon", 3), ("ask", "e", "day", 3), ("write", "s", "x"), ("deed", ("back", "web")), ("down",),
            ("up",), ("again",)),
            [False, True, False, True, None, None, None, None, True, False, 3, None, None, None, None, None, None, None])

    def test_happenings_go_in_order(self):
        self.assertEqual(self.play(("fall", "ma"), ("rise", "ma"), ("rise", "ma"), ("fall", "ma")),
                         [True, True, False, True])
        self.assertIs(self.house.machine("ma").stands(), False)
        self.assertEqual(self.house.machine("ma").life(), 2)

    def test_a_turn_of_nothing(self):
        house = House(MACHINES)
        self.assertEqual(house.play([]), [])
        self.assertEqual((house.turn(), house.many(), house.played()), (1, 0, [[]]))
        self.assertEqual(house.keeper().journal(), [("turn", 1)])

    def test_sheets_come_ahead_of_happenings_and_machines_go_on_behind(self):
        self.wait(1)
        self.assertEqual(self.play(("fail", 1)), [False])
        self.assertEqual(self.lies("ma"), [(1, "answering")])
        self.assertEqual(self.play(("fail", 1)), [True])
        # It failed, and went on by a turn.
        self.assertEqual(self.lies("ma"), [(1, "starting")])
        self.play()
        self.assertEqual(self.lies("ma"), [(1, "answering")])

    def test_starting_takes_its_turns(self):
        house = House([("ma", 1)])
        house.play([("rise", "ma"), ("deed", ("wish", "web", "front", 1, 0, 2, 1))])
        states = []
        for _ in range(6):
            house.play([])
            states.append([state for _, _, _, _, state in house.machine("ma").lying()])
        self.assertEqual(states, [[], ["starting"], ["starting"], ["answering"], ["answering"], ["answering"]])

    def test_what_was_played(self):
        self.play(("cut", "ma"), ("write", "s", "two words"))
        self.play()
        self.assertEqual(self.house.played(), [FIRST, [("cut", "ma"), ("write", "s", "two words")], []])


class TestRiseAndFall(HouseCase):
    def test_a_fallen_machine_sends_no_beats(self):
        self.wait(3)
        self.assertEqual(self.play(("fall", "ma")), [True])
        self.assertEqual(self.lies("ma"), [])
        self.wait(1)
        # The beat of turn 4 is the last one; the keeper hears it until turn 7.
        self.assertEqual(self.house.keeper().kept("ma")[2], 4)
        self.wait(1)
        self.assertEqual(self.house.turn(), 7)
        self.assertEqual([row[6] for row in self.house.keeper().planned()], ["ma", "mb"])
        self.wait(1)
        self.assertEqual([row[6] for row in self.house.keeper().planned()], ["mb"])
        self.assertEqual(self.house.keeper().reasons(), [(1, "silent")])

    def test_one_that_rises_soon_has_the_same_copy_again(self):
        self.wait(3)
        self.play(("fall", "ma"), ("rise", "ma"))
        self.assertEqual(self.house.machine("ma").life(), 2)
        self.wait(1)
        # The sheets of the elder life are not taken.
        self.assertEqual(self.lies("ma"), [])
        self.wait(1)
        self.assertEqual(self.lies("ma"), [(1, "answering")])

    def test_another_machine_has_its_copies(self):
        house = House([("ma", 1), ("mb", 1)])
        house.play([("rise", "ma"), ("rise", "mb"), ("deed", ("wish", "web", "front", 1, 0, 0, 1))])
        for _ in range(4):
            house.play([])
        house.play([("fall", "ma")])
        for _ in range(5):
            house.play([])
        self.assertEqual(house.machine("mb").lying(), [(2, "web", "front", 1, "answering")])


class TestRoad(HouseCase):
    def test_late(self):
        self.play(("late", "ma", 2))
        self.wait(1)
        # Of ma the beat of turn 2, put behind the row, is late: it comes at turn 5.
        self.assertEqual((self.house.keeper().kept("ma")[2], self.house.keeper().kept("mb")[2]), (1, 2))
        self.wait(1)
        self.assertEqual((self.house.keeper().kept("ma")[2], self.house.keeper().kept("mb")[2]), (1, 3))
        self.wait(1)
        self.assertEqual((self.house.keeper().kept("ma")[2], self.house.keeper().kept("mb")[2]), (2, 4))
        # The sheet of turn 2 is late, too.
        self.assertEqual((self.lies("ma"), self.lies("mb")), ([(1, "answering")], [(2, "answering")]))
        self.play(("late", "ma", 0))
        self.wait(1)
        self.assertEqual(self.house.keeper().kept("ma")[2], 6)

    def test_late_sheets(self):
        self.play(("late", "ma", 1))
        self.wait(1)
        self.assertEqual((self.lies("ma"), self.lies("mb")), ([], [(2, "answering")]))
        self.wait(1)
        self.assertEqual(self.lies("ma"), [(1, "answering")])

    def test_twice(self):
        self.play(("twice", "ma", True))
        # Of ma beat and sheet twice, of mb once.
        self.assertEqual(self.house.many(), 6)
        self.wait(1)
        self.assertEqual(len([row for row in self.house.keeper().journal() if row[0] == "beat"]), 4)
        self.wait(1)
        self.assertEqual(len([row for row in self.house.keeper().journal() if row[0] == "beat"]), 7)
        self.play(("twice", "ma", False))
        self.assertEqual(self.house.many(), 4 + 2)

    def test_cut_off(self):
        self.wait(3)
        self.assertEqual(self.play(("cut", "ma")), [None])
        self.assertEqual((self.house.is_cut("ma"), self.house.is_cut("mb")), (True, False))
        self.wait(3)
        self.assertEqual(self.house.keeper().reasons(), [(1, "silent")])
        self.assertEqual(self.lies("ma"), [(1, "answering")])
        # Four beats of ma and three sheets wait on the road; and of mb one each.
        self.assertEqual(self.house.many(), 9)
        self.assertEqual(self.play(("join", "ma")), [None])
        self.assertIs(self.house.is_cut("ma"), False)
        self.play()
        # All that stayed comes at once, the sheets too, and among the beats the newest one is kept.
        self.assertEqual(self.house.keeper().kept("ma")[2], 9)
        self.assertEqual(self.lies("ma"), [(1, "answering")])
        self.play()
        self.assertEqual(self.lies("ma"), [(3, "answering")])

    def test_beats_come_in_the_order_in_which_they_were_due(self):
        self.play(("late", "ma", 2))
        self.play(("late", "ma", 0))
        self.wait(3)
        beats = [row[1][2] for row in self.house.keeper().journal() if row[0] == "beat" and row[1][0] == "ma"]
        self.assertEqual(beats, [1, 3, 2, 4, 5])
        self.assertEqual(self.house.keeper().kept("ma")[2], 5)


class TestFail(HouseCase):
    quiet = 3

    def test_of_a_number_that_answers_wherever_it_is(self):
        self.assertEqual(self.play(("fail", 2), ("fail", 1), ("fail", 2)), [True, True, False])
        self.assertEqual((self.lies("ma"), self.lies("mb")), ([(1, "starting")], [(2, "starting")]))

    def test_of_numbers_that_are_not_there(self):
        self.assertEqual(self.play(("fail", 0), ("fail", 3), ("fail", 10 ** 9)), [False] * 3)

    def test_bounds(self):
        self.refused([("fail", -1)], 0)
        self.refused([("fail", 10 ** 9 + 1)], 0)


class TestAsk(HouseCase):
    first = FIRST[:2] + FIRST[4:6] + [("deed", ("wish", "web", "front", 2, 1, 0, 2)), ("deed", ("door", "d", "web"))]

    def test_let_in(self):
        self.assertEqual(self.play(("ask", "d", "day", 1), ("ask", "d", "day", 40), ("ask", "d", "day", 5)), [1, 39, 0])
        self.assertEqual(self.play(("ask", "d", "night", 40), ("ask", "d", "night", 1)), [40, 0])

    def test_the_keeper_is_told_how_many_were_brought(self):
        self.play(("ask", "d", "day", 40), ("ask", "d", "day", 5), ("ask", "d", "noon", 2), ("ask", "e", "day", 3))
        asks = [row for row in self.house.keeper().journal() if row[0] == "asks"]
        self.assertEqual(asks, [("asks", "d", 40), ("asks", "d", 5), ("asks", "d", 2)])

    def test_no_such_door_or_group(self):
        self.assertEqual(self.play(("ask", "e", "day", 1), ("ask", "d", "noon", 1), ("ask", "web", "day", 1)), [None] * 3)

    def test_a_door_without_groups(self):
        house = House(MACHINES)
        house.play([("deed", WEB), ("deed", ("door", "d", "web"))])
        self.assertEqual(house.play([("ask", "d", "day", 1)]), [None])
        self.assertEqual(house.keeper().journal()[-2:], [("asks", "d", 1), ("turn", 2)])

    def test_a_door_is_there_from_the_turn_behind_its_deed(self):
        self.assertEqual(self.play(("deed", ("door", "e", "web")), ("ask", "e", "day", 1)), [None, None])
        self.assertEqual(self.play(("deed", ("end", "door", "e")), ("ask", "e", "day", 1)), [None, 1])
        self.assertEqual(self.play(("ask", "e", "day", 1)), [None])

    def test_a_door_is_not_there_while_the_keeper_is_down(self):
        self.play(("down",), ("deed", ("door", "e", "web")))
        self.assertEqual(self.play(("ask", "e", "day", 1)), [None])
        self.play(("up",))
        self.assertEqual(self.play(("ask", "e", "day", 1)), [1])

    def test_bounds(self):
        for many in (0, 41, -1):
            self.refused([("ask", "d", "day", many)], 0)

    def test_a_rule_hears_of_asks(self):
        self.play(("deed", ("rule", "more", "d", 6, 1, 0)))
        self.play(("ask", "d", "day", 5))
        self.assertEqual(self.house.keeper().book().wish("web")["copies"], 2)
        self.play(("ask", "d", "day", 5), ("ask", "d", "noon", 1))
        self.assertEqual(self.house.keeper().book().log()[-1], ("more", ("copies", "web", 1, 0)))
        self.assertEqual(self.house.words(), [])


class TestLeading(HouseCase):
    def test_to_copies_that_answer(self):
        self.play(("ask", "d", "day", 9))
        self.assertEqual(self.house.led(), [])
        self.play(("ask", "d", "night", 1))
        self.assertEqual(self.house.led(), [("d", "day", 1), ("d", "day", 2), ("d", "night", 1), ("d", "day", 2)])
        self.play()
        self.assertEqual(self.house.led(), [("d", "day", 1), ("d", "day", 2), ("d", "day", 1), ("d", "day", 2)])
        self.play()
        self.assertEqual(self.house.led(), [("d", "day", 1), ("d", "day", 2)])
        self.play()
        self.assertEqual(self.house.led(), [])

    def test_by_the_doors_names(self):
        self.play(("deed", ("wish", "db", "back", 1, 0, 0, 1)), ("deed", ("door", "c", "db")),
                  ("deed", ("door", "e", "web")))
        self.wait(1)
        self.play(("ask", "e", "day", 1), ("ask", "d", "day", 1), ("ask", "c", "night", 1))
        self.assertEqual(self.house.led(), [("c", "night", 3), ("d", "day", 1), ("e", "day", 1)])

    def test_none_that_is_failed(self):
        self.wait(2)
        self.play(("ask", "d", "day", 9), ("fail", 1))
        self.assertEqual(self.house.led(), [("d", "day", 2), ("d", "day", 2)])

    def test_none_on_a_fallen_machine(self):
        self.wait(2)
        self.play(("ask", "d", "day", 9), ("fall", "mb"))
        self.assertEqual(self.house.led(), [("d", "day", 1), ("d", "day", 1)])

    def test_none_on_a_machine_that_is_cut_off(self):
        self.wait(2)
        self.play(("ask", "d", "day", 9), ("cut", "ma"))
        self.assertEqual(self.house.led(), [("d", "day", 2), ("d", "day", 2)])
        self.play(("join", "ma"))
        self.assertEqual(len(self.house.led()), 4)

    def test_told_editions_ahead(self):
        self.wait(3)
        self.play(("deed", ("edition", "web", 1, 3)))
        # Copy 1 is rolled: it answers until its machine takes the sheet, but isn't planned.
        self.play(("ask", "d", "day", 40))
        self.assertEqual(self.house.led(), [("d", "day", 2), ("d", "day", 2)])
        self.play()
        self.assertEqual((self.lies("ma"), self.lies("mb")), ([(3, "answering")], [(2, "answering")]))
        self.assertEqual(self.house.led(), [("d", "day", 3)] * 3)

    def test_while_the_keeper_is_down(self):
        self.wait(2)
        self.play(("down",), ("ask", "d", "day", 4))
        self.assertEqual(len(self.house.led()), 4)

    def test_doors_are_begun_anew_each_day(self):
        self.wait(5)
        self.play(("deed", ("edition", "web", 0, 1)), ("deed", ("copies", "web", 1, 0)))
        self.wait(3)
        self.assertEqual(self.house.turn(), 10)
        found = []
        for _ in range(15):
            self.play(("ask", "d", "day", 1), ("ask", "d", "night", 1))
            found.append((self.house.turn(), [group for _, group, _ in self.house.led()]))
        # The owners are day, day, night, over and over; at turns 12 and 24 they begin anew.
        self.assertEqual(found, [(11, ["day"])] + list(zip(range(12, 26), [["day"], ["day"], ["night"]] * 5)))

    def test_doors_are_begun_anew_where_owners_have_not_gone_round(self):
        self.wait(5)
        self.play(("deed", ("group", "noon", 2)), ("deed", ("copies", "web", 1, 0)), ("deed", ("edition", "web", 0, 1)))
        self.wait(2)
        found = []
        for _ in range(16):
            self.play(*[("ask", "d", group, 2) for group in ("day", "night", "noon")])
            found.append((self.house.turn(), [group for _, group, _ in self.house.led()]))
        shares = owners([("day", 2), ("night", 1), ("noon", 2)], 20)
        expected = shares[:2] + shares[:12] + shares[:2]
        self.assertEqual(found, [(turn, [group]) for turn, group in zip(range(10, 26), expected)])

    def test_new_groups_begin_anew_and_what_waits_stays(self):
        self.play(("ask", "d", "night", 3))
        self.play(("deed", ("group", "noon", 9)))
        self.assertEqual(self.house.led(), [("d", "night", 1), ("d", "night", 2), ("d", "night", 1)])
        self.assertEqual(self.play(("ask", "d", "noon", 2), ("ask", "d", "day", 1)), [2, 1])
        self.assertEqual(self.house.led(), [("d", "noon", 2), ("d", "noon", 1), ("d", "day", 2)])

    def test_what_waits_goes_with_the_door(self):
        self.play(("ask", "d", "day", 40), ("deed", ("end", "door", "d")))
        self.play(("deed", ("door", "d", "web")))
        self.play()
        self.assertEqual(self.house.led(), [])
        self.assertEqual(self.play(("ask", "d", "day", 40)), [40])

    def test_ended_and_told_again_in_one_turn_it_is_not_new(self):
        self.play(("ask", "d", "day", 3), ("deed", ("end", "door", "d")), ("deed", ("door", "d", "web")))
        self.play()
        self.assertEqual(self.house.led(), [("d", "day", 1), ("d", "day", 2), ("d", "day", 1)])


class TestWrite(HouseCase):
    quiet = 3

    def test_by_the_copy_that_has_the_lease(self):
        self.assertEqual(self.play(("write", "s", "x"), ("write", "s", "two words"), ("write", "t", "x"),
                                   ("write", "s", "")), [(1, 0), (1, 1), None, (1, 2)])
        self.assertEqual(self.house.writes(), [("s", 5, 0, 1, "sent"), ("s", 5, 1, 1, "sent"), ("s", 5, 2, 1, "sent")])
        self.assertEqual(self.house.rows_of("s"), [])
        self.play()
        self.assertEqual(self.house.writes(), [("s", 5, 0, 1, "done"), ("s", 5, 1, 1, "done"), ("s", 5, 2, 1, "done")])
        self.assertEqual(self.house.rows_of("s"), [(1, 5, 0, "x"), (1, 5, 1, "two words"), (1, 5, 2, "")])

    def test_places_begin_anew_each_turn_and_for_each_store(self):
        self.play(("write", "s", "x"), ("deed", ("store", "t", "web")))
        self.wait(1)
        self.assertEqual(self.play(("write", "s", "a"), ("write", "t", "b"), ("write", "s", "c")), [(1, 0), (1, 0), (1, 1)])
        self.play()
        self.assertEqual(self.house.rows_of("s"), [(1, 5, 0, "x"), (1, 7, 0, "a"), (1, 7, 1, "c")])
        self.assertEqual(self.house.rows_of("t"), [(1, 7, 0, "b")])

    def test_not_ahead_of_the_sheet(self):
        house = House(MACHINES)
        house.play(list(FIRST))
        told_each = [house.play([("write", "s", "x")]) for _ in range(4)]
        self.assertEqual(told_each, [[None], [None], [None], [(1, 0)]])

    def test_by_none_that_does_not_answer(self):
        self.assertEqual(self.play(("write", "s", "x"), ("fail", 1), ("write", "s", "y")), [(1, 0), True, None])
        self.assertEqual(self.play(("write", "s", "z")), [None])
        self.assertEqual(self.play(("write", "s", "z")), [(1, 0)])

    def test_by_none_that_fell(self):
        self.assertEqual(self.play(("fall", "ma"), ("write", "s", "x"), ("rise", "ma"), ("write", "s", "x")),
                         [True, None, True, None])

    def test_a_write_on_the_road_is_not_lost_with_its_machine(self):
        self.assertEqual(self.play(("write", "s", "x"), ("fall", "ma")), [(1, 0), True])
        self.play()
        self.assertEqual(self.house.rows_of("s"), [(1, 5, 0, "x")])

    def test_late_and_twice(self):
        self.play(("late", "ma", 2), ("twice", "ma", True), ("write", "s", "x"))
        self.wait(2)
        self.assertEqual(self.house.writes(), [("s", 5, 0, 1, "sent")])
        self.wait(3)
        self.assertEqual(self.house.writes(), [("s", 5, 0, 1, "done")])
        self.assertEqual(self.house.rows_of("s"), [(1, 5, 0, "x")])

    def test_stale(self):
        self.play(("cut", "ma"), ("write", "s", "old"))
        rows = []
        for _ in range(12):
            rows += self.play(("write", "s", "x"))
        # The sheet of turn 4 told copy 1 a lease until 10: it writes until turn 9, unheard.
        self.assertEqual(rows[:4], [(1, 0)] * 4)
        self.assertNotIn(1, [row[0] for row in rows[4:] if row])
        self.assertIn((2, 0), rows[4:])
        self.play(("join", "ma"))
        self.wait(2)
        words = [(number, word) for _, _, _, number, word in self.house.writes()]
        self.assertEqual(words[:5], [(1, "stale")] * 5)
        self.assertEqual({word for number, word in words if number == 2}, {"done"})
        self.assertEqual({row[0] for row in self.house.rows_of("s")}, {2})

    def test_the_shelf_stays_where_the_store_ends(self):
        self.play(("write", "s", "x"), ("deed", ("end", "store", "s")))
        self.play(("write", "s", "y"))
        self.wait(9)
        self.assertEqual(self.play(("write", "s", "z")), [None])
        self.assertEqual(self.house.rows_of("s"), [(1, 5, 0, "x"), (1, 6, 0, "y")])

    def test_letters(self):
        for letters in ("", " ", "~", "twelve signs", "  blanks    ", "{}%\\'\""):
            self.assertEqual(self.play(("write", "s", letters)), [(1, 0)])
        self.wait(1)
        self.assertEqual([row[3] for row in self.house.rows_of("s")],
                         ["", " ", "~", "twelve signs", "  blanks    ", "{}%\\'\""])
        for letters in ("thirteen sign", "a\nb", "\t", "\x1f", "\x7f", "\u00e9", b"x", None, 1, ["x"]):
            self.refused([("write", "s", letters)], 0)


class TestKeeperDownAndUp(HouseCase):
    quiet = 2

    def test_down(self):
        self.assertEqual(self.play(("down",), ("deed", ("store", "t", "web"))), [None, None])
        self.assertIs(self.house.is_up(), False)
        self.assertEqual(self.house.words(), [])
        self.assertEqual(self.house.keeper().book().stores(), [("s", "web")])
        # No sheets are sent; beats are.
        self.assertEqual(self.house.many(), 2)
        self.assertEqual(self.play(("up",), ("deed", ("back", "web"))), [None, None])
        self.assertIs(self.house.is_up(), True)
        self.assertEqual(self.house.words(), ["done", "refused"])
        self.assertEqual([row for row in self.house.keeper().journal() if row[0] == "turn"],
                         [("turn", turn) for turn in (1, 2, 3, 5)])

    def test_down_and_up_in_one_turn(self):
        self.play(("down",), ("up",))
        self.assertEqual(self.house.keeper().journal()[-1], ("turn", 4))
        self.play(("up",), ("down",), ("down",))
        self.assertEqual(self.house.keeper().journal()[-1][0], "beat")

    def test_beats_wait_while_it_is_down(self):
        self.play(("down",))
        self.wait(5)
        self.assertEqual(self.house.keeper().kept("ma")[2], 2)
        self.play(("up",))
        self.assertEqual(self.house.keeper().kept("ma")[2], 9)
        self.assertEqual(self.house.keeper().reasons(), [])

    def test_words_are_of_the_last_turn(self):
        self.play(("deed", ("back", "web")), ("deed", ("store", "t", "web")))
        self.assertEqual(self.house.words(), ["refused", "done"])
        self.play()
        self.assertEqual(self.house.words(), [])

    def test_made_anew(self):
        before = self.house.keeper()
        self.assertEqual(self.play(("deed", ("store", "t", "web")), ("again",), ("deed", ("back", "web"))), [None] * 3)
        self.assertIsNot(self.house.keeper(), before)
        self.assertEqual(self.house.words(), ["done", "refused"])
        text = show_journal(self.house.keeper())
        self.assertEqual(told_by_house(self.house)["keeper"]["journal"], keeper_of(MACHINES, text).journal())

    def test_made_anew_while_it_is_down(self):
        self.play(("down",), ("again",), ("deed", ("store", "t", "web")))
        self.assertIs(self.house.is_up(), False)
        self.play(("again",))
        self.play(("again",), ("up",), ("again",))
        self.assertEqual(self.house.words(), ["done"])

    def test_made_anew_at_every_turn_all_goes_on_the_same(self):
        rows = [[("ask", "d", "day", 5)], [("fall", "ma")], [("write", "s", "x")], [], [("deed", ("edition", "web", 1, 1))],
                [("rise", "ma")], [("down",)], [("deed", ("store", "t", "web"))], [("up",)], [], [("fail", 2)], [], []]
        other = House(MACHINES)
        for turn in self.house.played():
            other.play(turn + [("again",)])
        for turn in rows:
            told_each = other.play([("again",)] + turn + [("again",)])
            self.assertEqual(told_each[1:-1], self.house.play(turn))
            self.assertEqual(told_by_house(other), told_by_house(self.house))


class TestRefused(HouseCase):
    quiet = 2

    def test_no_list(self):
        for thing in odd_things() + ["rise ma", ("rise", "ma"), (("rise", "ma"),), 5]:
            self.refused(thing, 0)

    def test_rows_that_are_none(self):
        wrong = [
            "again", ["again"], (), ("x",), ("again", 1), ("down", "ma"), ("up", None), (None,), (("again",),), ("turn",),
            ("rise",), ("rise", "mc"), ("rise", "Ma"), ("rise", "ma", "mb"), ("rise", 1), ("rise", None), ("rise", ["ma"]),
            ("fall",), ("fall", "mc"), ("fall", ""), ("cut",), ("cut", "mc"), ("cut", "ma", 1), ("join",), ("join", "mc"),
            ("join", ()), ("late", "ma"), ("late", "ma", 3), ("late", "ma", -1), ("late", "ma", True), ("late", "mc", 1),
            ("late", "ma", 1.0), ("late", "ma", "1"), ("late", "ma", None), ("twice", "ma"), ("twice", "ma", 1),
            ("twice", "ma", 0), ("twice", "mc", True), ("twice", "ma", None), ("twice", "ma", "yes"), ("fail",),
            ("fail", True), ("fail", "1"), ("fail", None), ("fail", 1, 2), ("fail", 1.0), ("ask", "d", "day"),
            ("ask", "d", "day", 1, 1), ("ask", "D", "day", 1), ("ask", "d", "Day", 1), ("ask", "d", "day", True),
            ("ask", "d", "day", "1"), ("ask", "d", None, 1), ("ask", 1, "day", 1), ("write", "s"), ("write", "s", "x", "y"),
            ("write", "S", "x"), ("write", "toolongss", "x"), ("write", None, "x"), ("deed",), ("deed", "back web"),
            ("deed", ["back", "web"]), ("deed", ("back",)), ("deed", ("copies", "web", 2, 2)), ("deed", ()),
            ("deed", ("back", "web"), 1), ("deed", None), ("Rise", "ma"), (True, "ma"), (1, "ma"), ("rise ma",),
        ]
        for row in wrong:
            self.refused([row], 0)
            self.refused([("fall", "ma"), ("write", "s", "x"), row, row], 2)

    def test_things_of_other_kinds_at_each_place(self):
        rows = [("rise", "ma"), ("late", "ma", 1), ("twice", "ma", True), ("fail", 1), ("ask", "d", "day", 1),
                ("write", "s", "x"), ("deed", ("back", "web")), ("again",)]
        for thing in odd_things():
            self.refused([("again",), thing], 1)
            for row in rows:
                for at in range(len(row)):
                    if not (row[0] == "twice" and at == 2 and isinstance(thing, bool)):
                        self.refused([row[:at] + (thing,) + row[at + 1:]], 0)
                self.refused([row + (thing,)], 0)

    def test_at_their_bounds(self):
        self.play(("late", "ma", 0), ("late", "ma", 2), ("fail", 0), ("fail", 10 ** 9), ("ask", "d", "day", 1),
                  ("ask", "abcdefgh", "abcdefgh", 40), ("write", "abcdefgh", "twelve signs"), ("write", "s", ""))

    def test_of_names_that_there_are_not(self):
        self.assertEqual(self.play(("ask", "x", "y", 1), ("write", "z", "x"), ("deed", ("empty", "zz"))), [None] * 3)
        self.assertEqual(self.house.words(), ["refused"])


class TestWhatIsTold(HouseCase):
    quiet = 4

    def setUp(self):
        super().setUp()
        self.play(("write", "s", "x"), ("ask", "d", "day", 3), ("deed", ("back", "web")))

    def test_is_the_askers_own(self):
        before = told(self.house)
        for ask in (self.house.writes, self.house.led, self.house.words, self.house.played,
                    lambda: self.house.rows_of("s"), lambda: self.house.rows_of("x"), lambda: self.house.played()[0],
                    lambda: self.house.machine("ma").lying(), lambda: self.house.keeper().planned()):
            ask().append("x")
            ask().clear()
        self.assertEqual(told(self.house), before)

    def test_what_was_told_stays(self):
        led, words, writes, rows = self.house.led(), self.house.words(), self.house.writes(), self.house.rows_of("s")
        played = self.house.played()
        self.assertEqual((len(led), words, [row[4] for row in writes], rows), (3, ["refused"], ["sent"], []))
        self.play(("write", "s", "y"))
        self.assertEqual((len(led), words, [row[4] for row in writes], rows), (3, ["refused"], ["sent"], []))
        self.assertEqual(len(played), 6)

    def test_the_list_that_play_tells_is_its_own(self):
        answer = self.play(("write", "s", "y"))
        before = told(self.house)
        answer.clear()
        self.assertEqual(told(self.house), before)

    def test_what_was_handed_in_stays_and_may_be_changed_behind(self):
        rows = [("write", "s", "y"), ("deed", ("store", "t", "web"))]
        self.house.play(rows)
        self.assertEqual(rows, [("write", "s", "y"), ("deed", ("store", "t", "web"))])
        before = told(self.house)
        rows.clear()
        rows.append(("again",))
        self.assertEqual(told(self.house), before)
        machines = list(MACHINES)
        house = House(machines)
        machines.clear()
        house.play([("rise", "mb"), ("again",)])
        self.assertEqual(house.keeper().book().machines(), ["ma", "mb"])

    def test_the_very_machine_and_the_very_keeper(self):
        machine, keeper = self.house.machine("ma"), self.house.keeper()
        self.play(("fall", "ma"))
        self.assertIs(machine.stands(), False)
        self.assertIs(self.house.machine("ma"), machine)
        self.assertIs(self.house.keeper(), keeper)
        self.assertEqual(keeper.journal()[-1], ("turn", 7))

    def test_questions_change_nothing(self):
        self.assertEqual(told(self.house), told(self.house))

    def test_two_know_nothing_of_each_other(self):
        other = House(MACHINES)
        before = told(other)
        self.play(("fall", "ma"), ("write", "s", "y"))
        self.assertEqual(told(other), before)
        third = House(MACHINES)
        for rows in self.house.played():
            third.play(rows)
            other.play([("rise", "ma")])
        self.assertEqual(told(third), told(self.house))


if __name__ == "__main__":
    unittest.main()
