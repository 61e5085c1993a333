"""Points [50] to [54]: machines and the copies on them; of [3] and [11] what is told of machines."""

import copy
import unittest

from placedworks.machine import Machine


def row(number, start=0, wish="web", kind="front", edition=1, hands=2):
    return (number, wish, kind, edition, start, hands)


def sheet(turn, *rows, life=1, leases=()):
    return (life, turn, list(rows), list(leases))


def told(machine, turns=(1, 5, 9)):
    """All that a machine tells, so that nothing that it does later can change it."""
    numbers = range(1, 12)
    return copy.deepcopy((
        machine.called(), machine.berths(), machine.stands(), machine.life(), machine.lying(), machine.leases(),
        [machine.answers(number) for number in numbers], [machine.beat(turn) for turn in turns],
        [machine.lease_at(store, turn) for store in ("s", "t") for turn in turns],
    ))


def states(machine):
    return [(number, state) for number, _, _, _, state in machine.lying()]


class MachineCase(unittest.TestCase):
    def setUp(self):
        self.machine = Machine("ma", 3)

    def risen(self):
        self.assertIs(self.machine.rise(), True)
        return self.machine

    def changes_nothing(self, answer, doing):
        before = told(self.machine)
        self.assertIs(doing(), answer)
        self.assertEqual(told(self.machine), before)


class TestRisingAndFalling(MachineCase):
    def test_at_first(self):
        self.assertEqual(self.machine.called(), "ma")
        self.assertEqual(self.machine.berths(), 3)
        self.assertIs(self.machine.stands(), False)
        self.assertEqual(self.machine.life(), 0)
        self.assertEqual(self.machine.lying(), [])
        self.assertEqual(self.machine.leases(), [])
        self.assertIs(self.machine.answers(1), False)
        self.assertIsNone(self.machine.beat(1))
        self.assertIsNone(self.machine.lease_at("s", 1))

    def test_bounds_of_berths(self):
        self.assertEqual(Machine("m", 1).berths(), 1)
        self.assertEqual(Machine("machines", 6).berths(), 6)
        self.assertEqual(Machine("machines", 6).called(), "machines")

    def test_rise(self):
        self.assertIs(self.machine.rise(), True)
        self.assertIs(self.machine.stands(), True)
        self.assertEqual(self.machine.life(), 1)
        self.assertEqual(self.machine.lying(), [])
        self.assertEqual(self.machine.beat(4), ("ma", 1, 4, 0, []))

    def test_rise_twice(self):
        self.risen().take(sheet(1, row(1), leases=[("s", 1, 1, 9)]))
        self.machine.go_on()
        self.changes_nothing(False, self.machine.rise)
        self.assertEqual(self.machine.life(), 1)

    def test_fall(self):
        self.risen().take(sheet(1, row(1), leases=[("s", 1, 1, 9)]))
        self.machine.go_on()
        self.assertIs(self.machine.fall(), True)
        self.assertIs(self.machine.stands(), False)
        self.assertEqual(self.machine.life(), 1)
        self.assertEqual(self.machine.lying(), [])
        self.assertEqual(self.machine.leases(), [])
        self.assertIs(self.machine.answers(1), False)
        self.assertIsNone(self.machine.beat(3))
        self.assertIsNone(self.machine.lease_at("s", 3))

    def test_fall_where_it_is_fallen(self):
        self.changes_nothing(False, self.machine.fall)
        self.risen().fall()
        self.changes_nothing(False, self.machine.fall)
        self.assertEqual(self.machine.life(), 1)

    def test_rise_again(self):
        self.risen().take(sheet(7, row(1), leases=[("s", 1, 1, 9)]))
        self.machine.go_on()
        self.machine.fall()
        self.assertIs(self.machine.rise(), True)
        self.assertEqual(self.machine.life(), 2)
        self.assertEqual(self.machine.lying(), [])
        self.assertEqual(self.machine.leases(), [])
        self.assertEqual(self.machine.beat(8), ("ma", 2, 8, 0, []))

    def test_sheets_of_a_new_life_begin_anew(self):
        self.risen().take(sheet(7, row(1)))
        self.machine.fall()
        self.machine.rise()
        self.assertIs(self.machine.take(sheet(2, row(4), life=2)), True)
        self.assertEqual(self.machine.beat(9), ("ma", 2, 9, 2, [(4, False)]))

    def test_going_on_while_fallen(self):
        self.assertIsNone(self.machine.go_on())
        self.assertIs(self.machine.stands(), False)
        self.assertEqual(self.machine.lying(), [])


class TestSheets(MachineCase):
    def test_taken(self):
        self.risen()
        leases = [("s", 2, 5, 9), ("t", 1, 3, 8)]
        self.assertIs(self.machine.take((1, 4, [row(3), row(5, kind="back", edition=2, wish="db")], leases)), True)
        self.assertEqual(self.machine.lying(), [
            (3, "web", "front", 1, "starting"), (5, "db", "back", 2, "starting"),
        ])
        self.assertEqual(self.machine.leases(), leases)
        self.assertEqual(self.machine.beat(6), ("ma", 1, 6, 4, [(3, False), (5, False)]))

    def test_an_empty_one(self):
        self.risen()
        self.assertIs(self.machine.take(sheet(1)), True)
        self.assertEqual(self.machine.beat(2), ("ma", 1, 2, 1, []))

    def test_not_by_a_fallen_one(self):
        for life in (0, 1, 2):
            self.changes_nothing(False, lambda: self.machine.take(sheet(1, row(1), life=life)))
        self.risen().fall()
        for life in (0, 1, 2):
            self.changes_nothing(False, lambda: self.machine.take(sheet(1, row(1), life=life, leases=[("s", 1, 1, 9)])))
        self.machine.rise()
        self.assertEqual(self.machine.beat(3), ("ma", 2, 3, 0, []))

    def test_not_of_another_life(self):
        self.risen().fall()
        self.risen()
        for life in (1, 3):
            self.changes_nothing(False, lambda: self.machine.take(sheet(9, row(1), life=life, leases=[("s", 1, 1, 9)])))
        self.assertIs(self.machine.take(sheet(1, row(1), life=2)), True)

    def test_of_an_elder_turn_of_the_same_and_of_a_newer_one(self):
        self.risen().take(sheet(4, row(1), leases=[("s", 1, 1, 9)]))
        self.machine.go_on()
        for turn in (1, 3, 4):
            self.changes_nothing(False, lambda: self.machine.take(sheet(turn, row(2), leases=[("t", 1, 2, 9)])))
        self.assertIs(self.machine.take(sheet(5, row(2))), True)
        self.assertEqual(states(self.machine), [(2, "starting")])

    def test_that_come_twice(self):
        one = sheet(4, row(1), leases=[("s", 1, 1, 9)])
        self.risen().take(one)
        self.machine.go_on()
        self.changes_nothing(False, lambda: self.machine.take(one))

    def test_numbers_that_go_come_and_stay(self):
        self.risen().take(sheet(1, row(1), row(2, 2), row(4)))
        self.machine.go_on()
        self.machine.fail(4)
        self.machine.take(sheet(2, row(2, 2), row(3), row(4)))
        self.assertEqual(states(self.machine), [(2, "starting"), (3, "starting"), (4, "failed")])
        self.assertIs(self.machine.answers(1), False)
        self.machine.go_on()
        self.assertEqual(states(self.machine), [(2, "starting"), (3, "answering"), (4, "starting")])
        self.machine.go_on()
        self.assertEqual(states(self.machine), [(2, "answering"), (3, "answering"), (4, "answering")])

    def test_those_that_stay_are_as_they_were(self):
        self.risen().take(sheet(1, row(1, 1)))
        self.machine.go_on()
        self.machine.go_on()
        self.machine.take(sheet(2, (1, "db", "back", 7, 0, 1)))
        self.assertEqual(self.machine.lying(), [(1, "web", "front", 1, "answering")])
        self.machine.fail(1)
        self.machine.go_on()
        self.machine.go_on()
        self.assertEqual(states(self.machine), [(1, "starting")])

    def test_a_number_that_went_and_comes_again_starts_anew(self):
        self.risen().take(sheet(1, row(1)))
        self.machine.go_on()
        self.machine.take(sheet(2))
        self.assertEqual(self.machine.lying(), [])
        self.machine.take(sheet(3, row(1)))
        self.assertEqual(states(self.machine), [(1, "starting")])

    def test_leases_are_those_of_the_last_sheet(self):
        self.risen().take(sheet(1, row(1), leases=[("s", 1, 1, 9), ("t", 3, 1, 9)]))
        self.machine.take(sheet(2, row(1), leases=[("s", 2, 1, 12)]))
        self.assertEqual(self.machine.leases(), [("s", 2, 1, 12)])
        self.machine.take(sheet(3, row(1)))
        self.assertEqual(self.machine.leases(), [])

    def test_what_was_handed_in_stays_and_may_be_changed(self):
        one = sheet(1, row(1), leases=[("s", 1, 1, 9)])
        same = copy.deepcopy(one)
        self.risen().take(one)
        self.assertEqual(one, same)
        self.machine.go_on()
        before = told(self.machine)
        one[2].append(row(2))
        one[2][0] = row(7)
        one[3].clear()
        self.assertEqual(told(self.machine), before)
        one[3].append(("t", 1, 1, 9))
        self.machine.go_on()
        self.assertEqual(told(self.machine), before)


class TestCopies(MachineCase):
    def turn_by_turn(self, start, turns):
        self.risen().take(sheet(1, row(1, start)))
        seen = []
        for _ in range(turns):
            seen.append(states(self.machine)[0][1])
            self.assertIsNone(self.machine.go_on())
        return seen

    def test_start_of_none(self):
        self.assertEqual(self.turn_by_turn(0, 3), ["starting", "answering", "answering"])

    def test_start_of_one(self):
        self.assertEqual(self.turn_by_turn(1, 4), ["starting", "starting", "answering", "answering"])

    def test_start_of_two(self):
        self.assertEqual(self.turn_by_turn(2, 5), ["starting", "starting", "starting", "answering", "answering"])

    def test_fails_and_starts_anew(self):
        for start in (0, 1, 2):
            self.machine = Machine("ma", 1)
            self.turn_by_turn(start, start + 1)
            self.assertIs(self.machine.answers(1), True)
            self.assertIs(self.machine.fail(1), True)
            self.assertIs(self.machine.answers(1), False)
            seen = []
            for _ in range(start + 4):
                seen.append(states(self.machine)[0][1])
                self.machine.go_on()
            self.assertEqual(seen, ["failed"] + ["starting"] * (start + 1) + ["answering"] * 2)

    def test_fails_again(self):
        self.turn_by_turn(0, 1)
        self.assertIs(self.machine.fail(1), True)
        self.changes_nothing(False, lambda: self.machine.fail(1))
        self.machine.go_on()
        self.machine.go_on()
        self.assertIs(self.machine.fail(1), True)
        self.assertEqual(states(self.machine), [(1, "failed")])

    def test_fails_while_starting(self):
        self.turn_by_turn(1, 1)
        self.changes_nothing(False, lambda: self.machine.fail(1))
        self.machine.go_on()
        self.assertIs(self.machine.answers(1), True)

    def test_no_such_copy_fails(self):
        self.changes_nothing(False, lambda: self.machine.fail(1))
        self.turn_by_turn(0, 1)
        self.changes_nothing(False, lambda: self.machine.fail(2))
        self.machine.fall()
        self.changes_nothing(False, lambda: self.machine.fail(1))

    def test_one_alone_fails(self):
        self.risen().take(sheet(1, row(1), row(2)))
        self.machine.go_on()
        self.machine.fail(2)
        self.assertEqual(states(self.machine), [(1, "answering"), (2, "failed")])
        self.assertEqual(self.machine.beat(3), ("ma", 1, 3, 1, [(1, True), (2, False)]))


class TestBeats(MachineCase):
    def test_of_several_copies(self):
        self.risen().take(sheet(3, row(2), row(5, 1), row(11)))
        self.machine.go_on()
        self.machine.fail(11)
        self.assertEqual(self.machine.beat(7), ("ma", 1, 7, 3, [(2, True), (5, False), (11, False)]))

    def test_truths_are_truths(self):
        self.risen().take(sheet(1, row(1), row(2, 1)))
        self.machine.go_on()
        (_, yes), (_, no) = self.machine.beat(1)[4]
        self.assertIs(yes, True)
        self.assertIs(no, False)
        self.assertIs(self.machine.answers(1), True)
        self.assertIs(self.machine.answers(2), False)

    def test_of_one_copy(self):
        self.risen().take(sheet(3, row(2)))
        self.assertEqual(self.machine.beat(4), ("ma", 1, 4, 3, [(2, False)]))

    def test_asking_changes_nothing(self):
        self.risen().take(sheet(3, row(2)))
        self.assertEqual(told(self.machine), told(self.machine))


class TestLeases(MachineCase):
    def setUp(self):
        super().setUp()
        self.risen().take(sheet(1, row(1), row(2, 2), leases=[("s", 4, 1, 9), ("t", 3, 2, 9), ("u", 1, 8, 9)]))
        self.machine.go_on()

    def test_until(self):
        self.assertEqual(self.machine.lease_at("s", 0), (1, 4))
        self.assertEqual(self.machine.lease_at("s", 8), (1, 4))
        self.assertIsNone(self.machine.lease_at("s", 9))
        self.assertIsNone(self.machine.lease_at("s", 10))

    def test_of_a_copy_that_does_not_answer(self):
        self.assertIsNone(self.machine.lease_at("t", 5))
        self.machine.go_on()
        self.machine.go_on()
        self.assertEqual(self.machine.lease_at("t", 5), (2, 3))
        self.machine.fail(2)
        self.assertIsNone(self.machine.lease_at("t", 5))

    def test_of_a_copy_that_does_not_lie_here(self):
        self.assertIsNone(self.machine.lease_at("u", 5))
        self.assertIn(("u", 1, 8, 9), self.machine.leases())

    def test_of_no_such_store(self):
        self.assertIsNone(self.machine.lease_at("v", 5))


class TestCopied(MachineCase):
    def setUp(self):
        super().setUp()
        self.risen().take(sheet(3, row(1), row(2, 1), leases=[("s", 1, 1, 9)]))
        self.machine.go_on()

    def test_is_just_so(self):
        twin = self.machine.copied()
        self.assertIsInstance(twin, Machine)
        self.assertEqual(told(twin), told(self.machine))
        for each in (twin, self.machine):
            each.go_on()
            self.assertIs(each.take(sheet(3, row(9))), False)
        self.assertEqual(told(twin), told(self.machine))

    def test_goes_on_by_itself(self):
        doings = [
            lambda machine: machine.go_on(),
            lambda machine: machine.fail(1),
            lambda machine: machine.take(sheet(4, row(6), leases=[("t", 1, 6, 9)])),
            lambda machine: machine.fall(),
            lambda machine: (machine.fall(), machine.rise()),
        ]
        for doing in doings:
            twin = self.machine.copied()
            before = told(self.machine)
            doing(twin)
            self.assertNotEqual(told(twin), before)
            self.assertEqual(told(self.machine), before)
            elder = self.machine.copied()
            younger = elder.copied()
            doing(elder)
            self.assertEqual(told(younger), before)

    def test_of_a_fallen_one(self):
        self.assertEqual(told(Machine("mb", 6).copied()), told(Machine("mb", 6)))
        self.machine.fall()
        twin = self.machine.copied()
        self.assertEqual(told(twin), told(self.machine))
        twin.rise()
        self.assertEqual((twin.life(), self.machine.life(), self.machine.stands()), (2, 1, False))


class TestWhatIsTold(MachineCase):
    def test_is_the_askers_own(self):
        self.risen().take(sheet(3, row(1), leases=[("s", 1, 1, 9)]))
        self.machine.go_on()
        before = told(self.machine)
        self.machine.lying().clear()
        self.machine.leases().clear()
        self.machine.beat(1)[4].clear()
        self.assertEqual(told(self.machine), before)

    def test_stays_when_the_machine_goes_on(self):
        self.risen().take(sheet(3, row(1), leases=[("s", 1, 1, 9)]))
        lying, leases, beat = self.machine.lying(), self.machine.leases(), self.machine.beat(1)
        same = copy.deepcopy((lying, leases, beat))
        self.machine.go_on()
        self.machine.take(sheet(4, row(2), leases=[("t", 1, 1, 9)]))
        self.machine.fall()
        self.assertEqual((lying, leases, beat), same)

    def test_two_know_nothing_of_each_other(self):
        other = Machine("ma", 3)
        self.risen().take(sheet(3, row(1), leases=[("s", 1, 1, 9)]))
        self.assertEqual(told(other), told(Machine("ma", 3)))
        other.rise()
        self.assertEqual(other.beat(1), ("ma", 1, 1, 0, []))


if __name__ == "__main__":
    unittest.main()
