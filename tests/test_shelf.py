"""Points [82] and [83], and of [8] that what was told as done stands for ever; of [3] what is told."""

import copy
import random
import unittest

from placedworks.shelf import Shelf


def told(shelf):
    """All that a shelf tells, so that nothing that is put later can change it."""
    places = [(store, turn, place) for store in "st" for turn in range(6) for place in range(4)]
    return copy.deepcopy(([shelf.rows_of(store) for store in "st"], [shelf.became(*place) for place in places]))


class ShelfCase(unittest.TestCase):
    def setUp(self):
        self.shelf = Shelf()

    def put(self, word, token, turn, place=0, letters="x", store="s"):
        self.assertEqual(self.shelf.put((store, token, turn, place, letters)), word)


class TestPutting(ShelfCase):
    def test_at_first(self):
        self.assertEqual(self.shelf.rows_of("s"), [])
        self.assertIsNone(self.shelf.became("s", 1, 0))

    def test_done(self):
        self.put("done", 2, 4, 1, "two words")
        self.assertEqual(self.shelf.rows_of("s"), [(2, 4, 1, "two words")])
        self.assertEqual(self.shelf.became("s", 4, 1), "done")

    def test_of_the_greatest_token_one_less_and_one_more(self):
        self.put("done", 5, 1)
        self.put("done", 5, 2)
        self.put("stale", 4, 3)
        self.put("done", 6, 4)
        self.put("stale", 5, 5)
        self.assertEqual(self.shelf.rows_of("s"), [(5, 1, 0, "x"), (5, 2, 0, "x"), (6, 4, 0, "x")])
        self.assertEqual([self.shelf.became("s", turn, 0) for turn in range(7)],
                         [None, "done", "done", "stale", "done", "stale", None])

    def test_what_is_stale_does_not_count(self):
        self.put("done", 5, 1)
        self.put("stale", 3, 2)
        self.put("stale", 4, 3)
        self.put("done", 5, 4)

    def test_numbers_of_nought(self):
        self.put("done", 0, 0, 0, "")
        self.put("done", 0, 0, 1, "")
        self.put("done", 1, 0, 2, "")
        self.put("stale", 0, 0, 3, "")
        self.assertEqual(self.shelf.rows_of("s"), [(0, 0, 0, ""), (0, 0, 1, ""), (1, 0, 2, "")])

    def test_turns_and_places_need_not_rise(self):
        self.put("done", 1, 9, 3)
        self.put("done", 1, 2, 7)
        self.put("done", 2, 2, 1)
        self.assertEqual(self.shelf.rows_of("s"), [(1, 9, 3, "x"), (1, 2, 7, "x"), (2, 2, 1, "x")])

    def test_letters(self):
        for place, letters in enumerate(["", " ", "~", "twelve signs", "%s {} \\ \"'", "            "]):
            self.put("done", 1, 1, place, letters)
        self.assertEqual([row[3] for row in self.shelf.rows_of("s")],
                         ["", " ", "~", "twelve signs", "%s {} \\ \"'", "            "])


class TestAgain(ShelfCase):
    def test_the_same(self):
        self.put("done", 1, 1)
        before = told(self.shelf)
        self.put("again", 1, 1)
        self.put("again", 1, 1)
        self.assertEqual(told(self.shelf), before)

    def test_whatever_else_it_has(self):
        self.put("done", 3, 1)
        before = told(self.shelf)
        self.put("again", 2, 1)
        self.put("again", 9, 1, letters="other")
        self.assertEqual(told(self.shelf), before)
        self.put("done", 3, 2)

    def test_one_that_was_stale(self):
        self.put("done", 3, 1)
        self.put("stale", 2, 2)
        before = told(self.shelf)
        self.put("again", 2, 2)
        self.put("again", 3, 2)
        self.assertEqual(told(self.shelf), before)
        self.assertEqual(self.shelf.became("s", 2, 0), "stale")

    def test_not_of_another_store_turn_or_place(self):
        self.put("done", 1, 1, 1)
        self.put("done", 1, 1, 2)
        self.put("done", 1, 2, 1)
        self.put("done", 1, 1, 1, store="t")
        self.assertEqual(len(self.shelf.rows_of("s")), 3)


class TestStores(ShelfCase):
    def test_each_for_itself(self):
        self.put("done", 9, 1, store="s")
        self.put("done", 1, 1, store="t")
        self.put("stale", 8, 2, store="s")
        self.put("done", 2, 2, store="t")
        self.assertEqual(self.shelf.rows_of("s"), [(9, 1, 0, "x")])
        self.assertEqual(self.shelf.rows_of("t"), [(1, 1, 0, "x"), (2, 2, 0, "x")])
        self.assertEqual(self.shelf.rows_of("u"), [])
        self.assertEqual(self.shelf.became("t", 2, 0), "done")
        self.assertIsNone(self.shelf.became("u", 1, 0))


class TestForEver(unittest.TestCase):
    def test_rows_only_grow_and_tokens_never_fall(self):
        chance = random.Random(5)
        for _ in range(20):
            shelf = Shelf()
            done = {"s": [], "t": []}
            words = {}
            for _ in range(80):
                store, turn, place = chance.choice("st"), chance.randrange(6), chance.randrange(4)
                token = chance.randrange(8)
                word = shelf.put((store, token, turn, place, "x"))
                if word == "done":
                    done[store].append((token, turn, place, "x"))
                self.assertEqual(word == "again", (store, turn, place) in words)
                words.setdefault((store, turn, place), word)
                for each, rows in done.items():
                    self.assertEqual(shelf.rows_of(each), rows)
                    tokens = [row[0] for row in rows]
                    self.assertEqual(tokens, sorted(tokens))
                for key, first in words.items():
                    self.assertEqual(shelf.became(*key), first)


class TestWhatIsTold(ShelfCase):
    def test_is_the_askers_own(self):
        self.put("done", 1, 1)
        before = told(self.shelf)
        self.shelf.rows_of("s").clear()
        self.shelf.rows_of("t").append((1, 1, 1, "x"))
        self.assertEqual(told(self.shelf), before)

    def test_what_was_told_stays(self):
        self.put("done", 1, 1)
        rows = self.shelf.rows_of("s")
        self.put("done", 1, 2)
        self.assertEqual(rows, [(1, 1, 0, "x")])

    def test_questions_change_nothing(self):
        self.put("done", 1, 1)
        self.assertEqual(told(self.shelf), told(self.shelf))
        self.assertIsNone(self.shelf.became("s", 2, 0))
        self.put("done", 1, 2)

    def test_two_know_nothing_of_each_other(self):
        other = Shelf()
        self.put("done", 3, 1)
        self.assertEqual(told(other), told(Shelf()))
        self.assertEqual(other.put(("s", 1, 1, 0, "y")), "done")


if __name__ == "__main__":
    unittest.main()
