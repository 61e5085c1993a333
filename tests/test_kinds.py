"""Point [2]: whole numbers, words, and the four numbers of the interface."""

import unittest

from odd_things import odd_things
from placedworks import kinds
from placedworks.kinds import is_whole, is_within, is_word


class TestNumbers(unittest.TestCase):
    def test_the_four_numbers(self):
        self.assertEqual((kinds.LATE, kinds.QUIET, kinds.LEASE, kinds.DAY), (2, 3, 6, 12))
        for number in (kinds.LATE, kinds.QUIET, kinds.LEASE, kinds.DAY):
            self.assertTrue(is_whole(number))


class TestWhole(unittest.TestCase):
    def test_numbers_are_whole(self):
        for number in (0, 1, -1, 7, 10 ** 10, -(10 ** 5000)):
            self.assertIs(is_whole(number), True)

    def test_truths_are_not(self):
        self.assertIs(is_whole(True), False)
        self.assertIs(is_whole(False), False)

    def test_other_things_are_not(self):
        for thing in odd_things() + ["", "1", "web", [], [1], (1,)]:
            self.assertIs(is_whole(thing), False)

    def test_bounds_count_themselves(self):
        self.assertEqual([is_within(number, 1, 3) for number in range(5)], [False, True, True, True, False])
        self.assertIs(is_within(True, 1, 3), False)
        self.assertIs(is_within("2", 1, 3), False)


class TestWord(unittest.TestCase):
    def test_words_of_one_to_eight_letters(self):
        for many in range(1, 9):
            self.assertIs(is_word("abcdefgh"[:many]), True)
            self.assertIs(is_word("z" * many), True)

    def test_none_and_nine_letters(self):
        self.assertIs(is_word(""), False)
        self.assertIs(is_word("abcdefghi"), False)
        self.assertIs(is_word("a" * 8000), False)

    def test_every_small_letter_and_no_other_sign(self):
        for number in list(range(0, 1000)) + [0x430, 0x661, 0xFF41, 0x1D41A]:
            sign = chr(number)
            right = sign in "abcdefghijklmnopqrstuvwxyz"
            self.assertIs(is_word(sign), right, number)
            self.assertIs(is_word("a" + sign), right, number)
            self.assertIs(is_word(sign + "a"), right, number)

    def test_other_things_are_no_words(self):
        for thing in odd_things() + [0, 1, ["web"], ["w", "e", "b"], ("web",)]:
            self.assertIs(is_word(thing), False)


if __name__ == "__main__":
    unittest.main()
