"""Points [60] and [61]: the road; of [3] and [11] what is told of it."""

import copy
import unittest

from placedworks.road import Road


class RoadCase(unittest.TestCase):
    def setUp(self):
        self.road = Road(["ma", "mb", "mc"])

    def coming(self, *turns):
        """What comes at each of these turns, by turns, those of nothing left out."""
        found = {}
        for turn in turns:
            things = self.road.come(turn)
            if things:
                found[turn] = things
        return found


class TestMessages(RoadCase):
    def test_at_first(self):
        self.assertEqual(self.road.many(), 0)
        self.assertEqual(self.road.come(9), [])
        self.assertIs(self.road.is_cut("ma"), False)

    def test_due_one_turn_behind(self):
        self.assertIsNone(self.road.put("ma", "x", 4))
        self.assertEqual(self.road.many(), 1)
        self.assertEqual(self.coming(3, 4, 5, 6), {5: [("ma", "x")]})
        self.assertEqual(self.road.many(), 0)

    def test_late(self):
        for turns in (0, 1, 2):
            self.assertIsNone(self.road.late("ma", turns))
            self.road.put("ma", turns, 10)
        self.road.put("mb", "b", 10)
        self.assertEqual(self.coming(10, 11, 12, 13, 14), {
            11: [("ma", 0), ("mb", "b")], 12: [("ma", 1)], 13: [("ma", 2)],
        })

    def test_twice(self):
        self.assertIsNone(self.road.twice("ma", True))
        self.road.put("ma", "x", 1)
        self.road.put("mb", "y", 1)
        self.assertEqual(self.road.many(), 3)
        self.assertEqual(self.coming(1, 2, 3, 4), {2: [("ma", "x"), ("mb", "y")], 3: [("ma", "x")]})

    def test_once_again(self):
        self.road.twice("ma", True)
        self.road.twice("ma", False)
        self.road.put("ma", "x", 1)
        self.assertEqual(self.coming(1, 2, 3, 4), {2: [("ma", "x")]})

    def test_late_and_twice(self):
        self.road.late("ma", 2)
        self.road.twice("ma", True)
        self.road.put("ma", "x", 1)
        self.assertEqual(self.coming(1, 2, 3, 4, 5, 6), {4: [("ma", "x")], 5: [("ma", "x")]})

    def test_changed_between_two_puts(self):
        self.road.late("ma", 2)
        self.road.put("ma", "first", 1)
        self.road.late("ma", 0)
        self.road.twice("ma", True)
        self.road.put("ma", "second", 1)
        self.road.twice("ma", False)
        self.road.late("ma", 1)
        self.road.put("ma", "third", 1)
        self.assertEqual(self.coming(1, 2, 3, 4, 5), {
            2: [("ma", "second")], 3: [("ma", "second"), ("ma", "third")], 4: [("ma", "first")],
        })

    def test_each_machine_for_itself(self):
        self.road.late("ma", 1)
        self.road.twice("mb", True)
        self.road.cut("mc")
        for machine in ("ma", "mb", "mc"):
            self.road.put(machine, 7, 1)
        self.assertEqual(self.coming(1, 2, 3, 4), {2: [("mb", 7)], 3: [("ma", 7), ("mb", 7)]})
        self.assertEqual(self.road.many(), 1)

    def test_the_order_put_of_those_due_at_one_turn(self):
        self.road.late("mb", 1)
        self.road.twice("mc", True)
        self.road.put("mc", "c", 1)
        self.road.put("mb", "b", 1)
        self.road.put("ma", "a", 2)
        self.road.put("mc", "d", 2)
        self.assertEqual(self.coming(1, 2, 3, 4), {
            2: [("mc", "c")],
            3: [("mc", "c"), ("mb", "b"), ("ma", "a"), ("mc", "d")],
            4: [("mc", "d")],
        })

    def test_the_second_one_as_if_put_with_the_first_one(self):
        self.road.twice("ma", True)
        self.road.put("ma", "first", 1)
        self.road.late("mb", 1)
        self.road.put("mb", "second", 1)
        self.road.put("mb", "third", 1)
        self.assertEqual(self.road.come(2), [("ma", "first")])
        self.assertEqual(self.road.come(3), [("ma", "first"), ("mb", "second"), ("mb", "third")])

    def test_those_due_ahead_go_ahead(self):
        self.road.late("ma", 2)
        self.road.put("ma", "late", 1)
        self.road.put("mb", "soon", 1)
        self.road.put("mc", "next", 2)
        self.assertEqual(self.road.come(9), [("mb", "soon"), ("mc", "next"), ("ma", "late")])

    def test_asked_at_the_same_turn_twice(self):
        self.road.put("ma", "x", 1)
        self.assertEqual(self.road.come(2), [("ma", "x")])
        self.assertEqual(self.road.come(2), [])
        self.road.put("ma", "y", 1)
        self.assertEqual(self.road.come(2), [("ma", "y")])


class TestCutOff(RoadCase):
    def test_stays(self):
        self.road.put("ma", "x", 1)
        self.assertIsNone(self.road.cut("ma"))
        self.assertIs(self.road.is_cut("ma"), True)
        self.assertIs(self.road.is_cut("mb"), False)
        self.assertEqual(self.coming(2, 3, 4), {})
        self.assertEqual(self.road.many(), 1)

    def test_joined(self):
        self.road.cut("ma")
        self.road.put("ma", "x", 1)
        self.assertEqual(self.road.come(2), [])
        self.assertIsNone(self.road.join("ma"))
        self.assertIs(self.road.is_cut("ma"), False)
        self.assertEqual(self.road.come(2), [("ma", "x")])
        self.assertEqual(self.road.many(), 0)

    def test_what_was_due_meanwhile_comes_in_order(self):
        self.road.cut("ma")
        self.road.put("ma", "second", 2)
        self.road.put("ma", "first", 1)
        self.road.put("mb", "third", 2)
        self.road.put("ma", "later", 7)
        self.assertEqual(self.road.come(2), [])
        self.road.join("ma")
        self.assertEqual(self.road.come(5), [("ma", "first"), ("ma", "second"), ("mb", "third")])
        self.assertEqual(self.road.many(), 1)
        self.assertEqual(self.road.come(8), [("ma", "later")])

    def test_cut_twice_and_joined_twice(self):
        self.road.join("ma")
        self.assertIs(self.road.is_cut("ma"), False)
        self.road.cut("ma")
        self.road.cut("ma")
        self.road.join("ma")
        self.assertIs(self.road.is_cut("ma"), False)

    def test_twice_and_cut_off(self):
        self.road.twice("ma", True)
        self.road.put("ma", "x", 1)
        self.assertEqual(self.road.come(2), [("ma", "x")])
        self.road.cut("ma")
        self.assertEqual(self.coming(3, 4), {})
        self.road.join("ma")
        self.assertEqual(self.road.come(4), [("ma", "x")])

    def test_lateness_stays_while_cut_off(self):
        self.road.late("ma", 2)
        self.road.cut("ma")
        self.road.put("ma", "x", 1)
        self.road.join("ma")
        self.assertEqual(self.coming(2, 3, 4), {4: [("ma", "x")]})


THINGS = [
    0, 10 ** 9, -1, True, False, None, "", "two words", (), [], {}, (1, 2), [1, 2], {"a": 1}, [[]], ([],), {"a": []},
    [(1, [2, {"b": (3, [4])}])], ({1: {"x": [None]}},), {("a", 1): [True]}, [[[[[[[[[[1]]]]]]]]]],
]


def spoil(thing):
    """Change all that can be changed in a thing."""
    if isinstance(thing, tuple):
        for each in thing:
            spoil(each)
    if isinstance(thing, list):
        for each in thing:
            spoil(each)
        thing.append("spoilt")
    if isinstance(thing, dict):
        for each in thing.values():
            spoil(each)
        thing["spoilt"] = True


class TestThings(RoadCase):
    def test_come_as_they_were_put(self):
        for thing in THINGS:
            self.road.put("ma", thing, 1)
        come = [thing for _, thing in self.road.come(2)]
        self.assertEqual(come, THINGS)
        self.assertEqual([thing.__class__ for thing in come], [thing.__class__ for thing in THINGS])

    def test_changed_behind_the_putting(self):
        for late in (0, 2):
            self.road.late("ma", late)
            for thing in copy.deepcopy(THINGS):
                same = copy.deepcopy(thing)
                self.road.put("ma", thing, 1)
                self.assertEqual(thing, same)
                spoil(thing)
                self.assertEqual(self.road.come(4), [("ma", same)])

    def test_changed_behind_the_coming(self):
        self.road.twice("ma", True)
        for thing in copy.deepcopy(THINGS):
            same = copy.deepcopy(thing)
            self.road.put("ma", thing, 1)
            [(_, come)] = self.road.come(2)
            spoil(come)
            self.assertEqual(thing, same)
            self.assertEqual(self.road.come(3), [("ma", same)])

    def test_a_doubled_one_changed_behind_the_putting(self):
        self.road.twice("ma", True)
        for thing in copy.deepcopy(THINGS):
            same = copy.deepcopy(thing)
            self.road.put("ma", thing, 1)
            spoil(thing)
            self.assertEqual(self.road.come(2), [("ma", same)])
            self.assertEqual(self.road.come(3), [("ma", same)])

    def test_both_of_a_doubled_one_at_once(self):
        self.road.twice("ma", True)
        self.road.put("ma", [[1]], 1)
        (_, first), (_, second) = self.road.come(3)
        spoil(first)
        self.assertEqual(second, [[1]])

    def test_a_sheet_and_a_beat(self):
        sheet = (1, 4, [(1, "web", "front", 1, 0, 2)], [("s", 1, 1, 9)])
        beat = ("ma", 1, 4, 3, [(1, True)])
        for thing in (sheet, beat):
            same = copy.deepcopy(thing)
            self.road.put("ma", thing, 1)
            spoil(thing)
            self.assertEqual(self.road.come(2), [("ma", same)])

    def test_deep_ones(self):
        thing = []
        for _ in range(49):
            thing = [thing]
        self.road.put("ma", thing, 1)
        self.assertEqual(self.road.come(2), [("ma", thing)])


class TestWhatIsTold(RoadCase):
    def test_is_the_askers_own(self):
        self.road.put("ma", "x", 1)
        self.road.put("ma", "y", 2)
        come = self.road.come(2)
        come.append(("mb", "z"))
        self.assertEqual(self.road.many(), 1)
        self.assertEqual(self.road.come(3), [("ma", "y")])
        self.assertEqual(come, [("ma", "x"), ("mb", "z")])

    def test_questions_change_nothing(self):
        self.road.put("ma", "x", 1)
        for _ in range(3):
            self.assertEqual(self.road.many(), 1)
            self.assertIs(self.road.is_cut("ma"), False)
        self.assertEqual(self.road.come(2), [("ma", "x")])

    def test_what_was_handed_in_stays_and_may_be_changed(self):
        names = ["ma", "mb"]
        road = Road(names)
        self.assertEqual(names, ["ma", "mb"])
        names.clear()
        road.late("mb", 1)
        road.put("mb", "x", 1)
        self.assertEqual(road.come(2), [])
        self.assertEqual(road.come(3), [("mb", "x")])

    def test_two_know_nothing_of_each_other(self):
        other = Road(["ma", "mb", "mc"])
        self.road.late("ma", 1)
        self.road.twice("ma", True)
        self.road.cut("ma")
        self.road.put("ma", "x", 1)
        self.assertEqual(other.many(), 0)
        self.assertIs(other.is_cut("ma"), False)
        other.put("ma", "y", 1)
        self.assertEqual(other.come(2), [("ma", "y")])
        self.assertEqual(other.many(), 0)


if __name__ == "__main__":
    unittest.main()
