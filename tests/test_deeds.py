"""Points [20] and [21]: what is a deed, and what is none."""

import copy
import unittest

from odd_things import odd_things
from placedworks.deeds import is_deed

RIGHT = [
    ("group", "day", 3),
    ("wish", "web", "front", 3, 1, 0, 2),
    ("copies", "web", 2, 1),
    ("edition", "web", 1, 3),
    ("back", "web"),
    ("rank", "web", 0),
    ("store", "s", "web"),
    ("door", "d", "web"),
    ("rule", "more", "d", 10, 4, 2),
    ("empty", "ma"),
    ("fill", "ma"),
    ("end", "wish", "web"),
    ("end", "store", "s"),
    ("end", "door", "d"),
    ("end", "rule", "more"),
]

# (a deed, the place of a number in it, its bounds where the others stay)
BOUNDED = [
    (("group", "day", 3), 2, 1, 9),
    (("wish", "web", "front", 3, 0, 0, 2), 3, 0, 6),
    (("wish", "web", "front", 6, 1, 0, 2), 4, 0, 5),
    (("wish", "web", "front", 3, 1, 0, 2), 4, 0, 2),
    (("wish", "web", "front", 3, 1, 0, 2), 3, 2, 6),
    (("wish", "web", "front", 1, 0, 0, 2), 4, 0, 0),
    (("wish", "web", "front", 0, 0, 0, 2), 4, 0, 0),
    (("wish", "web", "front", 3, 1, 0, 2), 5, 0, 2),
    (("wish", "web", "front", 3, 1, 0, 2), 6, 1, 3),
    (("copies", "web", 2, 0), 2, 0, 6),
    (("copies", "web", 6, 3), 3, 0, 5),
    (("copies", "web", 4, 3), 2, 4, 6),
    (("copies", "web", 2, 1), 3, 0, 1),
    (("copies", "web", 1, 0), 3, 0, 0),
    (("copies", "web", 0, 0), 3, 0, 0),
    (("edition", "web", 1, 3), 2, 0, 2),
    (("edition", "web", 1, 3), 3, 1, 3),
    (("rank", "web", 0), 2, 0, 7),
    (("rule", "more", "d", 10, 4, 2), 3, 1, 20),
    (("rule", "more", "d", 10, 4, 0), 4, 0, 6),
    (("rule", "more", "d", 10, 4, 2), 4, 3, 6),
    (("rule", "more", "d", 10, 4, 2), 5, 0, 3),
    (("rule", "more", "d", 10, 0, 0), 5, 0, 0),
    (("rule", "more", "d", 10, 1, 0), 5, 0, 0),
]


def put(deed, at, part):
    """A deed with another part at a place."""
    return deed[:at] + (part,) + deed[at + 1:]


def word_places(deed):
    """The places of a deed's words, but its sort's."""
    first = 2 if deed[0] == "end" else 1
    return [at for at in range(first, len(deed)) if isinstance(deed[at], str)]


class TestDeeds(unittest.TestCase):
    def test_one_of_each_sort(self):
        for deed in RIGHT:
            self.assertIs(is_deed(deed), True, deed)

    def test_each_bound_and_one_beside_it(self):
        for deed, at, low, high in BOUNDED:
            for number in range(-3, 25):
                told = is_deed(put(deed, at, number))
                self.assertIs(told, low <= number <= high, (deed, at, number))

    def test_every_copies_and_keep(self):
        for copies in range(-1, 9):
            for keep in range(-1, 9):
                right = 0 <= copies <= 6 and (0 <= keep <= copies - 1 or copies == keep == 0)
                self.assertIs(is_deed(("copies", "web", copies, keep)), right)
                self.assertIs(is_deed(("wish", "web", "front", copies, keep, 0, 1)), right)
                self.assertIs(is_deed(("rule", "more", "d", 1, copies, keep)), right)

    def test_words_of_one_and_eight_letters_of_none_and_nine(self):
        for deed in RIGHT:
            for at in word_places(deed):
                for word, right in [("a", True), ("abcdefgh", True), ("", False), ("abcdefghi", False),
                                    ("Web", False), ("we b", False), ("web\n", False), ("w3b", False)]:
                    self.assertIs(is_deed(put(deed, at, word)), right, (deed, at, word))

    def test_words_may_be_like_sorts(self):
        self.assertIs(is_deed(("wish", "wish", "wish", 1, 0, 0, 1)), True)
        self.assertIs(is_deed(("end", "rule", "rule")), True)

    def test_sorts_that_may_not_end(self):
        for sort in ("group", "copies", "edition", "back", "rank", "empty", "fill", "end", "machine", "", "wishes",
                     "wis", "Wish"):
            self.assertIs(is_deed(("end", sort, "web")), False, sort)


class TestNoDeeds(unittest.TestCase):
    def test_truths_in_place_of_numbers(self):
        for deed, at, low, high in BOUNDED:
            for truth in (True, False):
                self.assertIs(is_deed(put(deed, at, truth)), False, (deed, at))

    def test_odd_things_in_place_of_any_part(self):
        for deed in RIGHT:
            for at in range(len(deed)):
                for thing in odd_things() + [[], ["web"], [1], ("web",)]:
                    self.assertIs(is_deed(put(deed, at, thing)), False, (deed, at))

    def test_numbers_and_words_in_each_others_place(self):
        for deed in RIGHT:
            for at in range(len(deed)):
                other = 1 if isinstance(deed[at], str) else "a"
                self.assertIs(is_deed(put(deed, at, other)), False, (deed, at))
                self.assertIs(is_deed(put(deed, at, str(deed[at]).upper() + "1")), False, (deed, at))

    def test_lists_in_a_tuples_place(self):
        for deed in RIGHT:
            self.assertIs(is_deed(list(deed)), False)
            self.assertIs(is_deed((deed,)), False)
            self.assertIs(is_deed([deed]), False)

    def test_a_part_too_few_or_too_many(self):
        for deed in RIGHT:
            self.assertIs(is_deed(deed[:-1]), False, deed)
            self.assertIs(is_deed(deed[1:]), False, deed)
            for part in ("web", 1, 0, None):
                self.assertIs(is_deed(deed + (part,)), False, deed)

    def test_no_such_sort(self):
        for word in ("", "Group", "groups", "grou", "turn", "hand", "word", "share", "keep"):
            self.assertIs(is_deed((word, "day", 3)), False)
            self.assertIs(is_deed((word,)), False)

    def test_whatever_is_handed_in(self):
        for thing in odd_things() + ["", "back web", 0, 7, [], ["back", "web"], {"back": "web"}]:
            self.assertIs(is_deed(thing), False)

    def test_what_is_handed_in_stays(self):
        for thing in ([["group", "day", 3]], ("group", ["day"], {"a": [3]}), ["back", ["web"]]):
            before = copy.deepcopy(thing)
            is_deed(thing)
            self.assertEqual(thing, before)


if __name__ == "__main__":
    unittest.main()
