"""Points [40] to [43] and [46]: room by sums."""

import copy
import itertools
import random
import unittest

from odd_things import odd_things
from placedworks import errors
from placedworks.sums import bears, laying, runs_of, short_of, shortage

LETTERS = "abcdefghi"


def machines(*berths):
    """So many machines ma, mb .. with these berths."""
    return [("m" + letter, many) for letter, many in zip(LETTERS, berths)]


def wishes(*rows):
    """Wishes wa, wb .. of these kinds and copies."""
    return [("w" + letter, kind, copies) for letter, (kind, copies) in zip(LETTERS, rows)]


def can_be_laid(rooms, demands):
    """Whether demands can be laid, by trying every choice of machines for each kind."""
    if not demands:
        return True
    for chosen in itertools.combinations(range(len(rooms)), demands[0]):
        if all(rooms[at] > 0 for at in chosen):
            left = [room - (at in chosen) for at, room in enumerate(rooms)]
            if can_be_laid(left, demands[1:]):
                return True
    return False


def demands_of(asked):
    kinds = sorted({kind for _, kind, _ in asked})
    return {kind: sum(copies for _, other, copies in asked if other == kind) for kind in kinds}


def fits(berths, asked):
    """Whether what is asked can be laid, by trying."""
    return can_be_laid([many for _, many in berths], list(demands_of(asked).values()))


def short_by_words(berths, asked):
    """Point [41], word by word."""
    demands = sorted(demands_of(asked).values(), reverse=True)
    for i in range(1, len(demands) + 1):
        demanded = sum(demands[:i])
        room = sum(min(many, i) for _, many in berths)
        if demanded > room:
            return (i, demanded, room)
    return None


def some_case(seed, most_machines=5, most_wishes=5):
    """Berths and wishes by chance, small enough for trying."""
    chance = random.Random(seed)
    berths = machines(*[chance.randrange(7) for _ in range(chance.randrange(most_machines + 1))])
    most = chance.randrange(7)
    rows = [(chance.choice("xyzuv"), chance.randrange(most + 1)) for _ in range(chance.randrange(most_wishes + 1))]
    return berths, wishes(*rows)


CALLS = [
    ("short_of", short_of),
    ("runs_of", runs_of),
    ("shortage", lambda berths, asked: shortage(berths, asked, 0)),
    ("laying", laying),
    ("bears", bears),
]


class TestRefused(unittest.TestCase):
    def refused(self, berths, asked, kind, at):
        for name, call in CALLS:
            with self.assertRaises(errors.PlaceError) as caught:
                call(berths, asked)
            self.assertIs(caught.exception.__class__, kind, (name, berths, asked))
            self.assertEqual(caught.exception.at, at, (name, berths, asked))

    def test_berths_of_0_and_6(self):
        self.refused(machines(-1), [], errors.BadBerths, 0)
        self.refused(machines(0, 6, 7), [], errors.BadBerths, 2)
        self.assertIsNone(short_of(machines(0, 6), []))

    def test_copies_of_0_and_6(self):
        self.refused([], wishes(("x", -1)), errors.BadAsked, 0)
        self.refused([], wishes(("x", 0), ("y", 6), ("z", 7)), errors.BadAsked, 2)
        self.assertEqual(short_of([], wishes(("x", 0), ("y", 6))), (1, 6, 0))

    def test_the_ninth_of_each(self):
        self.assertIsNone(short_of(machines(*[6] * 8), wishes(*[("x", 1)] * 8)))
        self.refused(machines(*[6] * 9), [], errors.BadBerths, 8)
        self.refused(machines(*[6] * 8), wishes(*[("x", 1)] * 9), errors.BadAsked, 8)
        self.refused(machines(*[6] * 8) + [None], [], errors.BadBerths, 8)

    def test_machines_that_do_not_stand_behind_the_one_ahead(self):
        self.refused([("mb", 1), ("ma", 1)], [], errors.BadBerths, 1)
        self.refused([("ma", 1), ("ma", 2)], [], errors.BadBerths, 1)
        self.refused([("ma", 1), ("mc", 1), ("mb", 1), ("ma", 1)], [], errors.BadBerths, 2)
        self.refused([("b", 1), ("ba", 1), ("ab", 1)], [], errors.BadBerths, 2)

    def test_wishes_that_stand_ahead(self):
        self.refused([], [("w", "x", 1), ("w", "y", 1)], errors.BadAsked, 1)
        self.refused([], [("w", "x", 1), ("v", "x", 1), ("u", "x", 1), ("v", "x", 1)], errors.BadAsked, 3)

    def test_wishes_stand_in_any_order(self):
        self.assertEqual(short_of([("ma", 2)], [("w", "x", 1), ("a", "y", 1)]), None)

    def test_rows_that_are_none(self):
        for thing in odd_things() + ["", "ma", 1, ["ma", 1], ("ma",), ("ma", 1, 1), ("ma", "1"), ("ma", True),
                                     ("ma", None), ("Ma", 1), ("", 1), ("abcdefghi", 1), (1, "ma"), (["ma"], 1)]:
            self.refused([thing], [], errors.BadBerths, 0)
            self.refused([("ma", 1), thing, ("aa", 1)], [], errors.BadBerths, 1)

    def test_asked_rows_that_are_none(self):
        for thing in odd_things() + ["", "w", 1, ["w", "x", 1], ("w", "x"), ("w", "x", 1, 1), ("w", "x", "1"),
                                     ("w", "x", False), ("w", "x", None), ("W", "x", 1), ("w", "X", 1), ("w", "", 1),
                                     ("", "x", 1), ("w", "abcdefghi", 1), ("abcdefghi", "x", 1), (1, "x", 1),
                                     (["w"], "x", 1), ("w", ["x"], 1)]:
            self.refused([], [thing], errors.BadAsked, 0)
            self.refused([], [("v", "x", 1), thing, ("v", "x", 1)], errors.BadAsked, 1)

    def test_what_is_no_list(self):
        for thing in odd_things() + ["", "ma", 0, 1, (("ma", 1),), {"ma": 1}]:
            self.refused(thing, [], errors.BadBerths, 0)
            self.refused([], thing, errors.BadAsked, 0)

    def test_berths_go_ahead_of_asked(self):
        self.refused([("ma", 1), None], None, errors.BadBerths, 1)
        self.refused(None, [None], errors.BadBerths, 0)


class TestShort(unittest.TestCase):
    def test_none_of_each(self):
        self.assertIsNone(short_of([], []))
        self.assertIsNone(short_of(machines(1), []))
        self.assertIsNone(short_of([], wishes(("x", 0))))

    def test_just_fitting_and_one_beyond(self):
        self.assertIsNone(short_of(machines(1, 1, 1), wishes(("x", 3))))
        self.assertEqual(short_of(machines(1, 1, 1), wishes(("x", 4))), (1, 4, 3))
        self.assertIsNone(short_of(machines(2, 1), wishes(("x", 2), ("y", 1))))
        self.assertEqual(short_of(machines(2, 1), wishes(("x", 2), ("y", 2))), (2, 4, 3))
        self.assertEqual(short_of(machines(2, 1), wishes(("x", 1), ("y", 1), ("z", 2))), (3, 4, 3))

    def test_one_kind_at_most_once_on_a_machine(self):
        self.assertEqual(short_of(machines(6), wishes(("x", 2))), (1, 2, 1))
        self.assertIsNone(short_of(machines(6), wishes(*[(kind, 1) for kind in "abcdef"])))
        self.assertEqual(short_of(machines(6), wishes(*[(kind, 1) for kind in "abcdefg"])), (7, 7, 6))

    def test_wishes_of_a_kind_count_together(self):
        self.assertEqual(short_of(machines(6, 6), wishes(("x", 2), ("x", 1))), (1, 3, 2))
        self.assertEqual(short_of(machines(6, 6), wishes(("x", 1), ("y", 1), ("x", 2))), (1, 3, 2))

    def test_the_least_of_several(self):
        self.assertEqual(short_of(machines(1), wishes(("x", 2), ("y", 2))), (1, 2, 1))

    def test_the_greatest_demands_first(self):
        self.assertEqual(short_of(machines(6, 6), wishes(("a", 1), ("b", 1), ("c", 3))), (1, 3, 2))

    def test_machines_without_berths(self):
        self.assertEqual(short_of(machines(0, 0, 1), wishes(("x", 2))), (1, 2, 1))

    def test_fits_just_where_all_can_be_laid(self):
        fitting = 0
        for seed in range(1500):
            berths, asked = some_case(seed)
            told = short_of(berths, asked)
            self.assertEqual(told, short_by_words(berths, asked))
            self.assertEqual(told is None, fits(berths, asked), (berths, asked))
            fitting += told is None
        self.assertTrue(300 < fitting < 1200, fitting)


class TestRuns(unittest.TestCase):
    def test_all_run_where_they_fit(self):
        self.assertEqual(runs_of(machines(2, 2), wishes(("x", 2), ("y", 2))), [("wa", 2), ("wb", 2)])

    def test_by_rank(self):
        self.assertEqual(runs_of(machines(1, 1), wishes(("x", 2), ("y", 2))), [("wa", 2), ("wb", 0)])
        self.assertEqual(runs_of(machines(1, 1, 1), wishes(("x", 2), ("y", 2), ("z", 1))),
                         [("wa", 2), ("wb", 1), ("wc", 0)])

    def test_a_lower_one_may_run_where_a_higher_one_may_not(self):
        self.assertEqual(runs_of(machines(6), wishes(("x", 3), ("x", 1), ("y", 2))), [("wa", 1), ("wb", 0), ("wc", 1)])

    def test_none_of_each(self):
        self.assertEqual(runs_of([], []), [])
        self.assertEqual(runs_of([], wishes(("x", 6), ("y", 0))), [("wa", 0), ("wb", 0)])
        self.assertEqual(runs_of(machines(6, 6), []), [])

    def test_eight_of_each(self):
        asked = wishes(*[(kind, 6) for kind in "abcdefgh"])
        self.assertEqual([run for _, run in runs_of(machines(*[6] * 8), asked)], [6] * 8)
        self.assertEqual([run for _, run in runs_of(machines(*[5] * 8), asked)], [6, 6, 6, 6, 6, 6, 4, 0])
        self.assertEqual([run for _, run in runs_of(machines(*[6] * 6), asked)], [6, 6, 6, 6, 6, 6, 0, 0])

    def test_the_greatest_choice_by_rank(self):
        for seed in range(400):
            berths, asked = some_case(seed, 4, 4)
            choices = [
                choice for choice in itertools.product(*[range(copies + 1) for _, _, copies in asked])
                if fits(berths, [(wish, kind, run) for (wish, kind, _), run in zip(asked, choice)])
            ]
            told = runs_of(berths, asked)
            self.assertEqual([wish for wish, _ in told], [wish for wish, _, _ in asked])
            self.assertEqual(tuple(run for _, run in told), max(choices), (berths, asked))


class TestShortage(unittest.TestCase):
    def test_none_where_all_run(self):
        asked = wishes(("x", 2), ("y", 2), ("z", 0))
        self.assertIsNone(shortage(machines(2, 1), asked, 0))
        self.assertEqual(shortage(machines(2, 1), asked, 1), (2, 4, 3))
        self.assertIsNone(shortage(machines(2, 1), asked, 2))

    def test_one_more_than_the_run(self):
        asked = wishes(("x", 6), ("y", 6), ("x", 1))
        self.assertEqual(shortage(machines(2, 2), asked, 0), (1, 3, 2))
        self.assertEqual(shortage(machines(2, 2), asked, 1), (1, 3, 2))
        self.assertEqual(shortage(machines(2, 2), asked, 2), (1, 3, 2))
        self.assertEqual(shortage(machines(1, 1), asked, 1), (2, 3, 2))

    def test_word_by_word(self):
        shorts = 0
        for seed in range(1500):
            berths, asked = some_case(seed)
            runs = runs_of(berths, asked)
            for at, (wish, kind, copies) in enumerate(asked):
                told = shortage(berths, asked, at)
                if runs[at][1] == copies:
                    self.assertIsNone(told)
                else:
                    ahead = [(asked[place][0], asked[place][1], runs[place][1]) for place in range(at)]
                    self.assertEqual(told, short_by_words(berths, ahead + [(wish, kind, runs[at][1] + 1)]))
                    self.assertIsNotNone(told)
                    shorts += 1
        self.assertTrue(shorts > 500)


class TestLaying(unittest.TestCase):
    def test_the_most_berths_left_then_the_least_name(self):
        self.assertEqual(laying(machines(1, 2, 2), wishes(("x", 2))), {"ma": [], "mb": ["x"], "mc": ["x"]})
        self.assertEqual(laying(machines(2, 2, 2), wishes(("x", 1), ("y", 1))), {"ma": ["x"], "mb": ["y"], "mc": []})
        self.assertEqual(laying(machines(3, 1), wishes(("x", 1), ("y", 1))), {"ma": ["x", "y"], "mb": []})

    def test_kinds_by_falling_demands_then_by_rising_words(self):
        self.assertEqual(
            laying(machines(2, 1, 1), wishes(("a", 1), ("b", 3))), {"ma": ["a", "b"], "mb": ["b"], "mc": ["b"]},
        )
        self.assertEqual(laying(machines(1, 1), wishes(("y", 1), ("x", 1))), {"ma": ["x"], "mb": ["y"]})
        self.assertEqual(
            laying(machines(2, 1), wishes(("b", 1), ("c", 1), ("a", 1))), {"ma": ["a", "b"], "mb": ["c"]},
        )

    def test_the_lists_are_sorted(self):
        self.assertEqual(laying(machines(2, 2), wishes(("z", 2), ("a", 1))), {"ma": ["a", "z"], "mb": ["z"]})

    def test_wishes_of_a_kind_lie_together(self):
        self.assertEqual(laying(machines(1, 1, 1), wishes(("x", 1), ("x", 2))), {"ma": ["x"], "mb": ["x"], "mc": ["x"]})

    def test_none_of_each(self):
        self.assertEqual(laying([], []), {})
        self.assertEqual(laying([], wishes(("x", 0))), {})
        self.assertEqual(laying(machines(0, 1), wishes(("x", 0))), {"ma": [], "mb": []})

    def test_no_room(self):
        for berths, asked, fields in [
            (machines(2, 1), wishes(("x", 2), ("y", 2)), (2, 4, 3)),
            (machines(6), wishes(("x", 2)), (1, 2, 1)),
            ([], wishes(("x", 1)), (1, 1, 0)),
        ]:
            with self.assertRaises(errors.PlaceError) as caught:
                laying(berths, asked)
            error = caught.exception
            self.assertIs(error.__class__, errors.NoRoom)
            self.assertEqual((error.first, error.demanded, error.room), fields)

    def test_word_by_word(self):
        laid = 0
        for seed in range(1500):
            berths, asked = some_case(seed)
            if short_of(berths, asked) is not None:
                with self.assertRaises(errors.NoRoom):
                    laying(berths, asked)
                continue
            told = laying(berths, asked)
            self.assertEqual(told, self.laid_by_words(berths, asked))
            self.assertEqual(list(told), [machine for machine, _ in berths])
            for machine, many in berths:
                self.assertLessEqual(len(told[machine]), many)
                self.assertEqual(told[machine], sorted(set(told[machine])))
            laid += 1
        self.assertTrue(laid > 300)

    def laid_by_words(self, berths, asked):
        demands = demands_of(asked)
        left = dict(berths)
        laid = {machine: [] for machine, _ in berths}
        while demands:
            most = max(demands.values())
            kind = min(word for word in demands if demands[word] == most)
            lacking = dict(left)
            for _ in range(demands.pop(kind)):
                machine = min(name for name in lacking if lacking[name] == max(lacking.values()))
                del lacking[machine]
                left[machine] -= 1
                laid[machine].append(kind)
        return {machine: sorted(kinds) for machine, kinds in laid.items()}


class TestBears(unittest.TestCase):
    def test_none_where_it_does_not_fit(self):
        self.assertIsNone(bears(machines(1), wishes(("x", 2))))
        self.assertIsNone(bears([], wishes(("x", 1))))

    def test_how_many_may_fall(self):
        self.assertEqual(bears(machines(1, 1, 1), wishes(("x", 1))), (2, (1, 1, 0)))
        self.assertEqual(bears(machines(1, 1, 1), wishes(("x", 2))), (1, (1, 2, 1)))
        self.assertEqual(bears(machines(1, 1, 1), wishes(("x", 3))), (0, (1, 3, 2)))

    def test_those_with_the_most_berths_fall_first(self):
        self.assertEqual(bears(machines(1, 3, 1), wishes(("x", 1), ("y", 1))), (1, (2, 2, 1)))
        self.assertEqual(bears(machines(1, 3), wishes(("x", 1), ("y", 1))), (0, (2, 2, 1)))

    def test_all_may_fall(self):
        self.assertEqual(bears([], []), (0, None))
        self.assertEqual(bears(machines(1, 2), []), (2, None))
        self.assertEqual(bears(machines(1, 2), wishes(("x", 0))), (2, None))
        self.assertEqual(bears(machines(0, 0), wishes(("x", 0))), (2, None))

    def test_whichever_machines_fall(self):
        borne = 0
        for seed in range(1500):
            berths, asked = some_case(seed)
            told = bears(berths, asked)
            if short_of(berths, asked) is not None:
                self.assertIsNone(told)
                continue
            k = max([
                many for many in range(len(berths) + 1)
                if all(short_of([row for row in berths if row not in gone], asked) is None
                       for gone in itertools.combinations(berths, many))
            ])
            most = sorted(berths, key=lambda row: (-row[1], row[0]))
            left = sorted(most[k + 1:])
            self.assertEqual(told, (k, None if k == len(berths) else short_by_words(left, asked)))
            borne += k > 0
        self.assertTrue(borne > 100)


class TestHandedIn(unittest.TestCase):
    def test_what_is_handed_in_stays(self):
        for seed in range(100):
            berths, asked = some_case(seed)
            before = copy.deepcopy((berths, asked))
            short_of(berths, asked)
            runs_of(berths, asked)
            bears(berths, asked)
            for at in range(len(asked)):
                shortage(berths, asked, at)
            try:
                laying(berths, asked)
            except errors.NoRoom:
                pass
            self.assertEqual((berths, asked), before)

    def test_what_is_told_is_new(self):
        berths, asked = machines(1, 1), wishes(("x", 1))
        told = laying(berths, asked)
        told["ma"].append("y")
        told["mz"] = []
        self.assertEqual(laying(berths, asked), {"ma": ["x"], "mb": []})
        runs = runs_of(berths, asked)
        runs.append("x")
        self.assertEqual(runs_of(berths, asked), [("wa", 1)])
        empty = laying(machines(1, 1), [])
        empty["ma"].append("x")
        self.assertEqual(empty["mb"], [])


if __name__ == "__main__":
    unittest.main()
