"""Points [91] to [93], with the shares of [90], and of [9] what is promised of shares; of [3] and [4] what is told."""

import copy
import random
import unittest

from odd_things import odd_things
from placedworks import errors
from placedworks.doors import Door
from placedworks.shares import owners

SHARES = [("day", 2), ("night", 1)]


def told(door):
    """All that a door tells of the groups that tests have."""
    waits = {}
    for group in ("day", "night", "noon", "eve", "dawn"):
        try:
            waits[group] = door.waits(group)
        except errors.Unknown as error:
            waits[group] = ("unknown", error.name)
    return copy.deepcopy((waits, door.slot(), door.owner()))


class DoorCase(unittest.TestCase):
    def setUp(self):
        self.door = Door(list(SHARES))

    def refused(self, kind, doing, **fields):
        with self.assertRaises(errors.PlaceError) as caught:
            doing()
        self.assertIs(caught.exception.__class__, kind)
        for field, value in fields.items():
            self.assertEqual(getattr(caught.exception, field), value)

    def used(self, many, door=None):
        return [(door or self.door).use() for _ in range(many)]


class TestMaking(DoorCase):
    def test_of_shares(self):
        self.assertEqual(told(self.door)[1:], (0, "day"))
        self.assertEqual((self.door.waits("day"), self.door.waits("night")), (0, 0))

    def test_by_name(self):
        self.assertEqual(told(Door(shares=list(SHARES))), told(self.door))
        self.assertEqual(told(Door(shares=None)), told(Door()))

    def test_of_none(self):
        for door in (Door(), Door(None)):
            self.assertIsNone(door.owner())
            self.assertEqual(door.slot(), 0)
            self.assertIsNone(door.use())
            self.assertEqual(door.slot(), 0)
            self.assertEqual(door.lead([(1, 3, True)]), [])
            self.refused(errors.Unknown, lambda: door.ask("day", 1), name="day")
            self.refused(errors.Unknown, lambda: door.waits("day"), name="day")
            door.begin()
            self.assertEqual(door.slot(), 0)

    def test_wrong_shares(self):
        wrong = [
            ([], 0), ((), 0), ("day", 0), ([("day", 0)], 0), ([("day", 10)], 0), ([("day", 1), ("day", 2)], 1),
            ([("day", 1), ("Night", 2)], 1), ([("day", 1), ["night", 2]], 1), ([("a", 1), ("b", True)], 1),
            ([("a", 1), ("b", 1), ("c", 1), ("d", 1), ("e", 1)], 4), ([("day", 1, 1)], 0), ([("", 1)], 0),
            ([("a", 1), ("b", 1), ("a", 1), ("d", 1), ("e", 1)], 2),
        ]
        for shares, at in wrong:
            self.refused(errors.BadShare, lambda: Door(shares), at=at)
            before = told(self.door)
            self.refused(errors.BadShare, lambda: self.door.new_shares(shares), at=at)
            self.assertEqual(told(self.door), before)

    def test_whatever_is_no_list(self):
        for thing in odd_things():
            if thing is not None:
                self.refused(errors.BadShare, lambda: Door(thing), at=0)
            self.refused(errors.BadShare, lambda: self.door.new_shares(thing), at=0)
            self.refused(errors.BadShare, lambda: Door([("day", 1), thing]), at=1)
            self.refused(errors.BadShare, lambda: self.door.new_shares([("day", 1), ("night", thing)]), at=1)

    def test_refused_shares_change_nothing(self):
        self.door.ask("day", 3)
        self.door.ask("night", 2)
        self.door.lead([(4, 1, True)])
        before = told(self.door)
        self.refused(errors.BadShare, lambda: self.door.new_shares([("noon", 1), ("noon", 1)]), at=1)
        self.assertEqual(told(self.door), before)
        self.assertEqual(self.door.lead([(3, 1, True), (5, 1, True)])[0], ("day", 5))


class TestAsking(DoorCase):
    def test_let_in(self):
        self.assertEqual(self.door.ask("day", 1), 1)
        self.assertEqual(self.door.ask("night", 7), 7)
        self.assertEqual(self.door.ask("day", 2), 2)
        self.assertEqual((self.door.waits("day"), self.door.waits("night")), (3, 7))
        self.assertEqual(self.door.slot(), 0)

    def test_forty_at_once(self):
        self.assertEqual(self.door.ask("day", 40), 40)
        self.assertEqual(self.door.waits("day"), 40)
        self.assertEqual(self.door.ask("day", 1), 0)
        self.assertEqual(self.door.ask("night", 40), 40)
        self.assertEqual((self.door.waits("day"), self.door.waits("night")), (40, 40))

    def test_beyond_forty_that_wait(self):
        self.assertEqual(self.door.ask("day", 39), 39)
        self.assertEqual(self.door.ask("day", 40), 1)
        self.assertEqual(self.door.waits("day"), 40)
        self.assertEqual(self.door.ask("day", 40), 0)
        self.door.use()
        self.assertEqual(self.door.ask("day", 2), 1)
        self.assertEqual(self.door.waits("day"), 40)

    def test_somewhat_beyond_the_bounds(self):
        self.assertEqual(self.door.ask("day", 41), 40)
        self.assertEqual(self.door.ask("night", 0), 0)
        self.assertEqual(told(self.door)[0]["night"], 0)

    def test_of_a_group_that_there_is_not(self):
        self.door.ask("day", 5)
        for group in ("noon", "da", "dayy", "", "Day"):
            before = told(self.door)
            self.refused(errors.Unknown, lambda: self.door.ask(group, 1), name=group)
            self.refused(errors.Unknown, lambda: self.door.waits(group), name=group)
            self.assertEqual(told(self.door), before)
        for thing in odd_things():
            self.refused(errors.Unknown, lambda: self.door.ask(thing, 1))
            self.refused(errors.Unknown, lambda: self.door.waits(thing))


class TestUsing(DoorCase):
    def test_where_nothing_waits(self):
        before = told(self.door)
        self.assertEqual(self.used(5), [None] * 5)
        self.assertEqual(told(self.door), before)

    def test_by_owners(self):
        self.door.ask("day", 10)
        self.door.ask("night", 10)
        self.assertEqual(self.used(6), ["day", "day", "night", "day", "day", "night"])
        self.assertEqual((self.door.waits("day"), self.door.waits("night")), (6, 8))
        self.assertEqual((self.door.slot(), self.door.owner()), (6, "day"))

    def test_where_the_owners_asks_do_not_wait(self):
        self.door.ask("night", 3)
        self.assertEqual(self.used(4), ["night", "night", "night", None])
        self.assertEqual((self.door.slot(), self.door.owner()), (3, "day"))

    def test_each_used_slot_counts_whoever_is_led(self):
        self.door.ask("night", 1)
        self.assertEqual(self.used(1), ["night"])
        self.assertEqual((self.door.slot(), self.door.owner()), (1, "day"))
        self.door.ask("day", 2)
        self.door.ask("night", 1)
        self.assertEqual(self.used(3), ["day", "night", "day"])

    def test_going_round_in_the_order_of_the_list(self):
        shares = [("c", 1), ("a", 1), ("d", 1), ("b", 1)]
        self.assertEqual(owners(shares, 4), ["c", "a", "d", "b"])
        for waiting, found in [("ab", "aabb"), ("cb", "cbbc"), ("cd", "cddc"), ("ad", "aadd"), ("ca", "caca")]:
            door = Door(shares)
            for group in waiting:
                door.ask(group, 2)
            self.assertEqual("".join(self.used(4, door)), found, waiting)

    def test_the_owner_changes_slot_by_slot(self):
        shares = [("a", 3), ("b", 2), ("c", 4)]
        door = Door(shares)
        for group in "abc":
            door.ask(group, 40)
        found = []
        for slot in range(60):
            self.assertEqual(door.slot(), slot)
            found.append(door.owner())
            self.assertEqual(door.use(), found[-1])
        self.assertEqual(found, owners(shares, 60))


class TestBegunAnew(DoorCase):
    def test_the_next_slot_is_the_first_one(self):
        self.door.ask("day", 5)
        self.door.ask("night", 5)
        self.used(2)
        self.assertEqual(self.door.owner(), "night")
        self.assertIsNone(self.door.begin())
        self.assertEqual((self.door.slot(), self.door.owner()), (0, "day"))
        self.assertEqual((self.door.waits("day"), self.door.waits("night")), (3, 5))
        self.assertEqual(self.used(3), ["day", "day", "night"])

    def test_the_number_led_to_last_stays(self):
        self.door.ask("day", 9)
        self.door.lead([(2, 1, True), (5, 1, True)])
        self.door.begin()
        self.assertEqual(self.door.lead([(2, 1, True), (5, 1, True), (7, 1, True)])[0], ("day", 7))


class TestNewShares(DoorCase):
    def setUp(self):
        super().setUp()
        self.door.ask("day", 4)
        self.door.ask("night", 3)
        self.used(1)

    def test_begun_anew(self):
        self.assertIsNone(self.door.new_shares(list(SHARES)))
        self.assertEqual((self.door.slot(), self.door.owner()), (0, "day"))
        self.assertEqual((self.door.waits("day"), self.door.waits("night")), (3, 3))

    def test_groups_that_come(self):
        self.door.new_shares([("noon", 1), ("day", 2), ("night", 1)])
        self.assertEqual(told(self.door)[0],
                         {"day": 3, "night": 3, "noon": 0, "eve": ("unknown", "eve"), "dawn": ("unknown", "dawn")})
        self.assertEqual(self.door.ask("noon", 2), 2)

    def test_groups_that_go(self):
        self.door.new_shares([("night", 1)])
        self.refused(errors.Unknown, lambda: self.door.waits("day"), name="day")
        self.refused(errors.Unknown, lambda: self.door.ask("day", 1), name="day")
        self.assertEqual(self.door.waits("night"), 3)
        self.assertEqual(self.used(4), ["night", "night", "night", None])

    def test_a_group_that_went_and_comes_again_has_nothing_waiting(self):
        self.door.new_shares([("night", 1)])
        self.door.new_shares(list(SHARES))
        self.assertEqual((self.door.waits("day"), self.door.waits("night")), (0, 3))

    def test_in_another_order(self):
        self.door.new_shares([("night", 1), ("day", 1)])
        self.assertEqual(self.door.owner(), "night")
        self.assertEqual(self.used(6), ["night", "day", "night", "day", "night", "day"])

    def test_in_another_order_going_round(self):
        self.door.new_shares([("noon", 9), ("night", 1), ("day", 1)])
        self.assertEqual(self.door.owner(), "noon")
        self.assertEqual(self.used(2), ["night", "night"])

    def test_other_shares_of_the_same_groups(self):
        self.door.new_shares([("day", 1), ("night", 2)])
        self.assertEqual(self.used(3), owners([("day", 1), ("night", 2)], 3))

    def test_the_number_led_to_last_stays(self):
        self.door.lead([(3, 1, True)])
        self.door.new_shares([("day", 1)])
        self.assertEqual(self.door.lead([(3, 1, True), (4, 1, True)])[0], ("day", 4))

    def test_of_a_door_without_shares(self):
        door = Door()
        door.new_shares(list(SHARES))
        self.assertEqual(told(door), told(Door(list(SHARES))))
        self.assertEqual(door.ask("night", 3), 3)


class TestLeading(DoorCase):
    def setUp(self):
        self.door = Door([("day", 1)])
        self.door.ask("day", 20)

    def numbers(self, *copies):
        return [number for _, number in self.door.lead(list(copies))]

    def test_groups_and_numbers(self):
        door = Door(list(SHARES))
        door.ask("day", 2)
        door.ask("night", 9)
        self.assertEqual(door.lead([(3, 2, True), (8, 3, True)]),
                         [("day", 3), ("day", 8), ("night", 3), ("night", 8), ("night", 8)])
        self.assertEqual((door.slot(), door.waits("day"), door.waits("night")), (5, 0, 6))

    def test_to_none(self):
        before = told(self.door)
        self.assertEqual(self.door.lead([]), [])
        self.assertEqual(told(self.door), before)

    def test_where_nothing_waits(self):
        door = Door(list(SHARES))
        before = told(door)
        self.assertEqual(door.lead([(1, 3, True)]), [])
        self.assertEqual(told(door), before)
        door.ask("day", 1)
        # Nothing was led yet, so the least number is the first one.
        self.assertEqual(door.lead([(1, 1, True), (2, 1, True)]), [("day", 1)])

    def test_to_one_copy(self):
        for hands in (1, 2, 3):
            self.assertEqual(self.numbers((4, hands, True)), [4] * hands)

    def test_fewer_asks_than_hands(self):
        door = Door(list(SHARES))
        door.ask("night", 2)
        self.assertEqual(door.lead([(1, 3, True), (2, 3, True)]), [("night", 1), ("night", 2)])
        door.ask("day", 2)
        self.assertEqual(door.lead([(1, 3, True), (2, 3, True)]), [("day", 1), ("day", 2)])
        door.ask("day", 1)
        self.assertEqual(door.lead([(1, 3, True), (2, 3, True)]), [("day", 1)])
        door.ask("day", 1)
        self.assertEqual(door.lead([(1, 3, True), (2, 3, True)]), [("day", 2)])

    def test_going_round_those_with_hands(self):
        self.assertEqual(self.numbers((1, 1, True), (2, 3, True), (5, 2, True)), [1, 2, 5, 2, 5, 2])

    def test_the_first_is_behind_the_one_led_to_last(self):
        self.assertEqual(self.numbers((1, 1, True), (2, 2, True)), [1, 2, 2])
        self.assertEqual(self.numbers((1, 1, True), (2, 1, True), (3, 1, True)), [3, 1, 2])
        self.assertEqual(self.numbers((1, 1, True), (2, 1, True), (3, 1, True)), [3, 1, 2])

    def test_the_number_led_to_last_is_gone(self):
        self.assertEqual(self.numbers((4, 1, True)), [4])
        self.assertEqual(self.numbers((2, 1, True), (3, 1, True), (5, 1, True), (9, 1, True)), [5, 9, 2, 3])

    def test_the_number_led_to_last_is_the_greatest(self):
        self.assertEqual(self.numbers((9, 1, True)), [9])
        self.assertEqual(self.numbers((3, 1, True), (9, 2, True)), [3, 9, 9])
        self.assertEqual(self.numbers((2, 1, True), (8, 1, True)), [2, 8])

    def test_told_ones_alone_where_there_is_one(self):
        self.assertEqual(self.numbers((1, 3, False), (2, 1, True), (3, 3, False)), [2])
        self.assertEqual(self.numbers((1, 3, False), (2, 2, True), (7, 1, True)), [7, 2, 2])

    def test_all_where_none_is_told(self):
        self.assertEqual(self.numbers((1, 1, False), (2, 2, False)), [1, 2, 2])

    def test_numbers_count_whatever_their_edition(self):
        self.assertEqual(self.numbers((5, 1, False)), [5])
        self.assertEqual(self.numbers((3, 1, True), (6, 1, True)), [6, 3])

    def test_hands_are_of_this_asking(self):
        for _ in range(3):
            self.assertEqual(self.numbers((6, 2, True)), [6, 6])

    def test_hands_of_none(self):
        self.assertEqual(self.numbers((1, 0, True), (2, 1, True)), [2])
        self.assertEqual(self.numbers((1, 0, True), (2, 3, False)), [])


class TestAtRandom(unittest.TestCase):
    """Doors against the words of [91] and [92], written down once more."""

    def by_words(self, waiting, shares, slot, last, copies):
        used = [row for row in copies if row[2]] or copies
        left = {row[0]: row[1] for row in used}
        led = []
        while any(waiting.values()) and any(left.values()):
            owner = owners(shares, slot + 1)[slot]
            order = [group for group, _ in shares]
            while waiting[owner] == 0:
                owner = order[(order.index(owner) + 1) % len(order)]
            waiting[owner] -= 1
            slot += 1
            number = last
            while True:
                greater = [each for each in left if number is None or each > number]
                number = min(greater) if greater else min(left)
                if left[number]:
                    break
            left[number] -= 1
            last = number
            led.append((owner, number))
        return led, slot, last

    def test_as_the_words_tell(self):
        for seed in range(60):
            chance = random.Random(seed)
            groups = chance.sample(["day", "night", "noon", "eve"], chance.randrange(1, 5))
            shares = [(group, chance.randrange(1, 10)) for group in groups]
            door, waiting, slot, last = Door(shares), {group: 0 for group in groups}, 0, None
            for _ in range(40):
                for group in groups:
                    if chance.random() < 0.4:
                        many = chance.randrange(1, 9)
                        self.assertEqual(door.ask(group, many), min(many, 40 - waiting[group]))
                        waiting[group] = min(40, waiting[group] + many)
                numbers = sorted(chance.sample(range(1, 9), chance.randrange(4)))
                copies = [(number, chance.randrange(1, 4), chance.random() < 0.6) for number in numbers]
                led, slot, last = self.by_words(waiting, shares, slot, last, copies)
                self.assertEqual(door.lead(copies), led)
                if chance.random() < 0.1:
                    door.begin()
                    slot = 0
                if chance.random() < 0.1:
                    chance.shuffle(shares)
                    door.new_shares(shares)
                    slot = 0
                self.assertEqual({group: door.waits(group) for group in groups}, waiting)
                self.assertEqual((door.slot(), door.owner()), (slot, owners(shares, slot + 1)[slot]))

    def test_a_group_that_always_asks_has_its_share(self):
        checked = 0
        for seed in range(80):
            chance = random.Random(seed)
            groups = ["day", "night", "noon", "eve"][:chance.randrange(2, 5)]
            shares = dict([(group, chance.randrange(1, 10)) for group in groups])
            door, whole = Door(list(shares.items())), sum(shares.values())
            led, always = [], list(groups)
            for turn in range(1, 60):
                for group in groups:
                    if chance.random() < 0.5:
                        door.ask(group, chance.randrange(1, 20))
                if turn % 20 == 0:
                    door.begin()
                    led, always = [], list(groups)
                for _ in range(chance.randrange(12)):
                    always = [group for group in always if door.waits(group) > 0]
                    found = door.use()
                    led += [found] if found else []
                    for group in always:
                        self.assertGreater((led.count(group) + 1) * whole, shares[group] * len(led), seed)
                        checked += 1
        self.assertGreater(checked, 5000)


class TestWhatIsTold(DoorCase):
    def test_what_is_handed_in_stays(self):
        shares, copies = list(SHARES), [(1, 2, True), (3, 1, False)]
        door = Door(shares)
        door.ask("day", 9)
        door.lead(copies)
        door.new_shares(shares)
        self.assertEqual(shares, SHARES)
        self.assertEqual(copies, [(1, 2, True), (3, 1, False)])
        copies = [(1, 2, False)]
        door.lead(copies)
        self.assertEqual(copies, [(1, 2, False)])

    def test_what_is_changed_behind_a_call_changes_nothing(self):
        shares = list(SHARES)
        door = Door(shares)
        before = told(door)
        shares.append(("noon", 9))
        shares[0] = ("eve", 1)
        self.assertEqual(told(door), before)
        self.assertEqual(door.ask("night", 2), 2)
        newer = [("noon", 1), ("day", 1)]
        door.new_shares(newer)
        newer.clear()
        self.assertEqual(door.ask("noon", 1), 1)
        self.assertEqual(door.owner(), "noon")
        copies = [(1, 1, False)]
        led = door.lead(copies)
        copies.append((2, 3, False))
        self.assertEqual(led, [("noon", 1)])

    def test_what_is_told_is_the_askers_own(self):
        self.door.ask("day", 9)
        led = self.door.lead([(1, 1, True)])
        before = told(self.door)
        led.clear()
        led.append("x")
        self.assertEqual(told(self.door), before)
        self.assertEqual(self.door.lead([(1, 1, True)]), [("day", 1)])

    def test_questions_change_nothing(self):
        self.door.ask("day", 9)
        self.door.use()
        self.assertEqual(told(self.door), told(self.door))

    def test_two_know_nothing_of_each_other(self):
        other = Door(list(SHARES))
        before = told(other)
        self.door.ask("day", 4)
        self.door.lead([(3, 1, True)])
        self.door.new_shares([("eve", 1)])
        self.assertEqual(told(other), before)


if __name__ == "__main__":
    unittest.main()
