"""Points [5], [7] and [70] to [75] over many turns by chance, but always the same ones."""

import random
import unittest

from placedworks.posts import Posts
from placedworks.sums import runs_of
from posts_by_words import PostsByWords

NAMES = ["ma", "mb", "mc", "md"]
WISHES = ["a", "b", "c", "d"]


class Chance:
    """Wishes and machines that change from turn to turn, by chance."""

    def __init__(self, seed, calm):
        self.chance = random.Random(seed)
        self.calm = calm
        self.berths = [(name, self.chance.randrange(1, 4)) for name in NAMES[:self.chance.randrange(1, 5)]]
        self.emptied = {name: False for name, _ in self.berths}
        self.heard = {name: True for name, _ in self.berths}
        self.wishes = [self.new_wish(name) for name in WISHES[:self.chance.randrange(1, 4)]]

    def new_wish(self, name):
        copies = self.chance.randrange(5)
        keep = self.chance.randrange(max(copies, 1) + 1)
        return [name, self.chance.choice("xyz"), copies, keep, 1, self.chance.randrange(3), self.chance.randrange(1, 4)]

    def rarely(self):
        return self.chance.random() < (0.04 if self.calm else 0.2)

    def go_on(self):
        for name in self.emptied:
            if self.rarely():
                self.emptied[name] = not self.emptied[name]
            if self.rarely():
                self.heard[name] = not self.heard[name]
            elif self.chance.random() < 0.3:
                self.heard[name] = True
        for wish in self.wishes:
            if self.rarely():
                wish[2] = self.chance.randrange(5)
            if self.rarely():
                wish[3] = self.chance.randrange(5)
            if self.rarely():
                wish[4] = self.chance.randrange(1, 4)
            if self.rarely() and self.rarely():
                wish[1] = self.chance.choice("xyz")
        if self.rarely():
            self.chance.shuffle(self.wishes)
        if self.rarely() and self.wishes:
            self.wishes.pop()
        free = [name for name in WISHES if name not in [wish[0] for wish in self.wishes]]
        if self.rarely() and free:
            self.wishes.insert(self.chance.randrange(len(self.wishes) + 1), self.new_wish(free[0]))

    def change_berths(self):
        self.berths = [(name, self.chance.randrange(1, 5) if self.rarely() else many) for name, many in self.berths]

    def asked(self):
        return [tuple(wish) for wish in self.wishes]

    def machines(self):
        return [(name, many, self.emptied[name]) for name, many in self.berths if self.heard[name]]


def told(posts):
    return (
        {name: posts.posts_of(name) for name in WISHES}, posts.planned(), posts.coming(), posts.runs(),
        posts.reasons(), {name: posts.shortage_of(name) for name in WISHES},
        [posts.planned_on(name) for name in NAMES], [posts.copy_of(number) for number in range(posts.coming() + 1)],
    )


def told_by_words(words):
    planned = sorted(words.copies.values())
    return (
        {name: [tuple(post) for post in words.posts.get(name, [])] for name in WISHES}, planned, words.next, words.runs,
        words.reasons, {name: words.shortages.get(name) for name in WISHES},
        [[row for row in planned if row[6] == name] for name in NAMES],
        [words.copies.get(number) for number in range(words.next + 1)],
    )


def answering_posts(posts, wish, answering):
    return len([post for post in posts.posts_of(wish) if post[0] in answering or post[1] in answering])


class TestAtRandom(unittest.TestCase):
    def turns(self, seeds, many, calm, sure):
        """Each turn of posts with what it was made of, copies answering more surely or less."""
        for seed in range(seeds):
            case, posts = Chance(seed, calm), Posts()
            for turn in range(many):
                answering = [row[0] for row in posts.planned() if case.chance.random() < sure]
                yield (seed, turn), posts, case.asked(), case.machines(), answering
                case.go_on()

    def test_as_the_words_tell(self):
        for calm in (False, True):
            for sure in (0.5, 0.95):
                words = None
                for place, posts, wishes, machines, answering in self.turns(60, 25, calm, sure):
                    if place[1] == 0:
                        words = PostsByWords()
                    gone = words.turn(wishes, machines, answering)
                    self.assertEqual(posts.turn(wishes, machines, answering), gone, place)
                    self.assertEqual(told(posts), told_by_words(words), place)

    def test_as_the_words_tell_where_berths_change(self):
        for seed in range(200):
            case, posts, words = Chance(seed, False), Posts(), PostsByWords()
            for turn in range(20):
                answering = [row[0] for row in posts.planned() if case.chance.random() < 0.8]
                handed = (case.asked(), case.machines(), answering)
                self.assertEqual(posts.turn(*handed), words.turn(*handed), (seed, turn))
                self.assertEqual(told(posts), told_by_words(words), (seed, turn))
                case.go_on()
                case.change_berths()

    def test_berths_and_kinds(self):
        for place, posts, wishes, machines, answering in self.turns(150, 25, False, 0.6):
            posts.turn(wishes, machines, answering)
            for machine, berths, _ in machines:
                kinds = [row[2] for row in posts.planned_on(machine)]
                self.assertLessEqual(len(kinds), berths, place)
                self.assertEqual(len(kinds), len(set(kinds)), place)
            self.assertEqual({row[6] for row in posts.planned()} - {row[0] for row in machines}, set(), place)

    def test_numbers_and_posts(self):
        for place, posts, wishes, machines, answering in self.turns(150, 25, False, 0.6):
            before = [row[0] for row in posts.planned()]
            first = posts.coming()
            gone = posts.turn(wishes, machines, answering)
            after = [row[0] for row in posts.planned()]
            self.assertEqual(after, sorted(after), place)
            self.assertEqual(gone, sorted(set(before) - set(after)), place)
            self.assertEqual([number for number in after if number not in before],
                             list(range(first, posts.coming())), place)
            in_posts = [number for wish in wishes for post in posts.posts_of(wish[0]) for number in post if number]
            self.assertEqual(sorted(in_posts), after, place)
            usable = [(machine, berths) for machine, berths, emptied in machines if not emptied]
            runs = runs_of(usable, [wish[:3] for wish in wishes])
            self.assertEqual(posts.runs(), runs, place)
            self.assertEqual([len(posts.posts_of(wish)) for wish, _ in runs], [run for _, run in runs], place)

    def test_no_fewer_answer_than_the_gate_tells(self):
        checked = 0
        elder = None
        for place, posts, wishes, machines, answering in self.turns(200, 25, True, 0.9):
            runs = dict(posts.runs())
            before = {wish: answering_posts(posts, wish, answering) for wish in runs}
            kinds = dict([(row[1], row[2]) for row in posts.planned()])
            posts.turn(wishes, machines, answering)
            heard = [row[0] for row in machines]
            if place[1] > 0 and [name for name in elder if name not in heard] == []:
                for (name, kind, _, keep, _, _, _), (_, run) in zip(wishes, posts.runs()):
                    if name in runs and run >= runs[name] and kinds.get(name, kind) == kind:
                        gate = max(0, min(keep, run - 1))
                        self.assertGreaterEqual(answering_posts(posts, name, answering), min(gate, before[name]), place)
                        checked += gate > 0
            elder = heard
        self.assertGreater(checked, 500)

    def test_all_that_may_run_runs_in_the_end(self):
        for seed in range(150):
            case, posts = Chance(seed, False), Posts()
            for _ in range(12):
                numbers = [row[0] for row in posts.planned()]
                posts.turn(case.asked(), case.machines(), [number for number in numbers if case.chance.random() < 0.7])
                case.go_on()
            for _ in range(200):
                numbers = [row[0] for row in posts.planned()]
                gone = posts.turn(case.asked(), case.machines(), numbers)
                if gone == [] and posts.reasons() == []:
                    break
            usable = [name for name, _, emptied in case.machines() if not emptied]
            told_editions = {wish[0]: wish[4] for wish in case.wishes}
            for wish, run in posts.runs():
                self.assertEqual(len(posts.posts_of(wish)), run)
                for copy, leaving in posts.posts_of(wish):
                    self.assertIsNone(leaving, seed)
                    self.assertEqual(posts.copy_of(copy)[3], told_editions[wish], seed)
                    self.assertIn(posts.copy_of(copy)[6], usable, seed)
            self.assertEqual(posts.turn(case.asked(), case.machines(), [row[0] for row in posts.planned()]), [])
            self.assertEqual(posts.reasons(), [])


if __name__ == "__main__":
    unittest.main()
