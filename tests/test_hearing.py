"""Points [62] and [63]: what is heard; of [3] and [11] what is told of it."""

import copy
import unittest

from placedworks.hearing import Hearing
from placedworks.kinds import QUIET
from placedworks.machine import Machine
from placedworks.road import Road


def beat(turn, *rows, machine="ma", life=1, sheet=0):
    return (machine, life, turn, sheet, list(rows))


def told(hearing):
    """All that a hearing tells, so that nothing that it hears later can change it."""
    names = ("ma", "mb", "mc")
    return copy.deepcopy((
        [hearing.kept(name) for name in names], [hearing.heard(turn) for turn in range(20)],
        [hearing.has(name, number) for name in names for number in range(9)],
        [hearing.answers(name, number) for name in names for number in range(9)],
    ))


class HearingCase(unittest.TestCase):
    def setUp(self):
        self.hearing = Hearing()

    def changes_nothing(self, one):
        before = told(self.hearing)
        self.assertIs(self.hearing.hear(one), False)
        self.assertEqual(told(self.hearing), before)


class TestBeats(HearingCase):
    def test_at_first(self):
        self.assertIsNone(self.hearing.kept("ma"))
        self.assertEqual(self.hearing.heard(1), [])
        self.assertIs(self.hearing.has("ma", 1), False)
        self.assertIs(self.hearing.answers("ma", 1), False)

    def test_the_first_is_kept(self):
        one = beat(5, (1, True), (3, False), life=2, sheet=4)
        self.assertIs(self.hearing.hear(one), True)
        self.assertEqual(self.hearing.kept("ma"), ("ma", 2, 5, 4, [(1, True), (3, False)]))
        self.assertIsNone(self.hearing.kept("mb"))

    def test_of_an_elder_the_same_and_a_newer_turn(self):
        self.hearing.hear(beat(5, (1, True)))
        self.changes_nothing(beat(4, (2, True)))
        self.changes_nothing(beat(5, (2, True), life=2))
        self.assertIs(self.hearing.hear(beat(6, (2, False), life=1)), True)
        self.assertEqual(self.hearing.kept("ma"), beat(6, (2, False)))

    def test_of_a_newer_life_but_an_elder_turn(self):
        self.hearing.hear(beat(5, life=1))
        self.changes_nothing(beat(4, life=2))

    def test_that_come_twice(self):
        one = beat(5, (1, True))
        self.hearing.hear(one)
        self.changes_nothing(one)
        self.changes_nothing(beat(5, (1, True)))

    def test_of_several_machines(self):
        self.hearing.hear(beat(5, (1, True)))
        self.assertIs(self.hearing.hear(beat(2, (7, False), machine="mb")), True)
        self.assertEqual(self.hearing.kept("ma"), beat(5, (1, True)))
        self.assertEqual(self.hearing.kept("mb"), beat(2, (7, False), machine="mb"))


class TestNumbers(HearingCase):
    def test_has_and_answers(self):
        self.hearing.hear(beat(5, (1, True), (3, False)))
        self.assertEqual([self.hearing.has("ma", number) for number in (0, 1, 2, 3, 4)],
                         [False, True, False, True, False])
        self.assertEqual([self.hearing.answers("ma", number) for number in (0, 1, 2, 3, 4)],
                         [False, True, False, False, False])

    def test_truths_are_truths(self):
        self.hearing.hear(beat(5, (1, True), (3, False)))
        for number in (1, 3, 4):
            self.assertIsInstance(self.hearing.has("ma", number), bool)
            self.assertIsInstance(self.hearing.answers("ma", number), bool)

    def test_of_another_machine(self):
        self.hearing.hear(beat(5, (1, True)))
        self.hearing.hear(beat(5, (2, True), machine="mb"))
        self.assertIs(self.hearing.has("mb", 1), False)
        self.assertIs(self.hearing.answers("mb", 1), False)
        self.assertIs(self.hearing.answers("mb", 2), True)
        self.assertIs(self.hearing.has("mc", 1), False)

    def test_by_the_newest_beat(self):
        self.hearing.hear(beat(5, (1, True), (2, True)))
        self.hearing.hear(beat(6, (1, False)))
        self.assertIs(self.hearing.has("ma", 1), True)
        self.assertIs(self.hearing.answers("ma", 1), False)
        self.assertIs(self.hearing.has("ma", 2), False)


class TestSilence(HearingCase):
    def test_three_turns_ago_and_four(self):
        self.assertEqual(QUIET, 3)
        self.hearing.hear(beat(5))
        self.assertEqual([self.hearing.heard(turn) for turn in (5, 6, 7, 8, 9, 10)],
                         [["ma"], ["ma"], ["ma"], ["ma"], [], []])

    def test_a_beat_of_a_later_turn(self):
        self.hearing.hear(beat(5))
        self.assertEqual(self.hearing.heard(4), ["ma"])
        self.assertEqual(self.hearing.heard(1), ["ma"])

    def test_sorted(self):
        for name, turn in (("mc", 5), ("ma", 6), ("md", 1), ("mb", 5)):
            self.hearing.hear(beat(turn, machine=name))
        self.assertEqual(self.hearing.heard(8), ["ma", "mb", "mc"])
        self.assertEqual(self.hearing.heard(9), ["ma"])
        self.assertEqual(self.hearing.heard(4), ["ma", "mb", "mc", "md"])

    def test_heard_again(self):
        self.hearing.hear(beat(1))
        self.assertEqual(self.hearing.heard(5), [])
        self.hearing.hear(beat(2))
        self.assertEqual(self.hearing.heard(5), ["ma"])
        self.assertEqual(self.hearing.kept("ma"), beat(2))

    def test_a_silent_machine_keeps_its_beat(self):
        self.hearing.hear(beat(1, (4, True)))
        self.assertEqual(self.hearing.heard(9), [])
        self.assertEqual(self.hearing.kept("ma"), beat(1, (4, True)))
        self.assertIs(self.hearing.answers("ma", 4), True)

    def test_a_standing_machine_is_never_silent(self):
        for late in (0, 1, 2):
            for twice in (False, True):
                machine, road, hearing = Machine("ma", 1), Road(["ma"]), Hearing()
                machine.rise()
                road.late("ma", late)
                road.twice("ma", twice)
                for turn in range(1, 15):
                    for _, one in road.come(turn):
                        hearing.hear(one)
                    self.assertEqual(hearing.heard(turn), ["ma"] if turn > late + 1 else [])
                    road.put("ma", machine.beat(turn), turn)


class TestWhatIsTold(HearingCase):
    def test_is_the_askers_own(self):
        self.hearing.hear(beat(5, (1, True)))
        before = told(self.hearing)
        self.hearing.kept("ma")[4].append((2, True))
        self.hearing.kept("ma")[4].clear()
        self.hearing.heard(5).clear()
        self.assertEqual(told(self.hearing), before)

    def test_what_was_handed_in_stays_and_may_be_changed(self):
        one = beat(5, (1, True))
        self.hearing.hear(one)
        self.assertEqual(one, beat(5, (1, True)))
        before = told(self.hearing)
        one[4].append((2, True))
        one[4][0] = (1, False)
        self.assertEqual(told(self.hearing), before)

    def test_what_was_told_stays(self):
        self.hearing.hear(beat(5, (1, True)))
        kept, heard = self.hearing.kept("ma"), self.hearing.heard(5)
        self.hearing.hear(beat(6, (2, True)))
        self.hearing.hear(beat(6, machine="mb"))
        self.assertEqual((kept, heard), (beat(5, (1, True)), ["ma"]))

    def test_two_know_nothing_of_each_other(self):
        other = Hearing()
        self.hearing.hear(beat(5, (1, True)))
        self.assertEqual(told(other), told(Hearing()))


if __name__ == "__main__":
    unittest.main()
