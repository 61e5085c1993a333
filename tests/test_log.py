"""Points [35] and [11]: the text of a log, and the book made of it."""

import random
import unittest

from odd_things import odd_things
from placedworks import errors
from placedworks.book import Book
from placedworks.log import book_of, show_log
from test_book import WEB, told

NAMES = ["mb", "ma"]


def some_deed(chance):
    """A deed of few names, so that many are done and many are refused."""
    name, other = chance.choice("abc"), chance.choice("abcd")
    copies = chance.randrange(1, 7)
    return chance.choice([
        ("group", other, chance.randrange(1, 10)),
        ("wish", other + other, name, copies, copies - 1, chance.randrange(3), chance.randrange(1, 4)),
        ("copies", name + name, copies, chance.randrange(copies)),
        ("edition", name + name, chance.randrange(3), chance.randrange(1, 4)),
        ("back", name + name),
        ("rank", name + name, chance.randrange(8)),
        ("store", other, name + name),
        ("door", other, name + name),
        ("rule", other, name, chance.randrange(1, 21), 0, 0),
        (chance.choice(["empty", "fill"]), "m" + name),
        ("end", chance.choice(["store", "door", "rule"]), other),
        ("end", "wish", chance.choice(["dd", name + name])),
    ])


class LogCase(unittest.TestCase):
    def refused(self, names, text, kind, at):
        with self.assertRaises(errors.PlaceError) as caught:
            book_of(names, text)
        self.assertIs(caught.exception.__class__, kind, text)
        self.assertEqual(caught.exception.at, at, text)

    def no_row(self, text, at):
        self.refused(NAMES, text, errors.NoRow, at)


class TestText(LogCase):
    def test_written(self):
        book = Book(NAMES)
        self.assertEqual(show_log(book), "")
        book.do(WEB)
        book.do(("rank", "web", 0), by="more")
        self.assertEqual(show_log(book), "hand wish web front 3 1 0 2\nmore rank web 0\n")

    def test_read(self):
        book = book_of(NAMES, "hand wish web front 3 1 0 2\nmore copies web 2 0\n")
        self.assertIsInstance(book, Book)
        self.assertEqual(book.machines(), NAMES)
        self.assertEqual(book.log(), [("hand", WEB), ("more", ("copies", "web", 2, 0))])
        self.assertEqual(book.wish("web")["copies"], 2)

    def test_the_empty_text(self):
        self.assertEqual(told(book_of(NAMES, "")), told(Book(NAMES)))

    def test_a_book_made_of_its_log_is_equal_to_it(self):
        for seed in range(60):
            chance = random.Random(seed)
            book = Book(NAMES)
            refused = 0
            for _ in range(120):
                try:
                    book.do(some_deed(chance), by=chance.choice(["hand", "more", "r"]))
                except errors.PlaceError:
                    refused += 1
            self.assertTrue(0 < refused < 120)
            text = show_log(book)
            again = book_of(NAMES, text)
            self.assertTrue(again == book)
            self.assertEqual(told(again), told(book))
            self.assertEqual(told(book.copied()), told(book))
            self.assertEqual(show_log(again), text)


class TestRefused(LogCase):
    def test_rows_that_are_none(self):
        for row in ("", " ", "hand", "hand ", "wish web front 3 1 0 2", "Hand fill ma", "hand  fill ma", " fill ma",
                    "hand fill  ma", "hand fill ma ", "toolongname fill ma", "h4nd fill ma", "hand,fill ma",
                    "hand wish web front 3 3 0 2", "hand wish web front 03 1 0 2", "hand\tfill ma", "hand fill ma\r",
                    "hand group day 10000000000", "\u00e4 fill ma", "hand fill m\u00e4", "hand turn"):
            self.no_row(row + "\n", 0)
            self.no_row("hand fill ma\n" + row + "\nhand fill ma\n", 1)

    def test_by_of_one_and_eight_letters(self):
        self.assertEqual(book_of(NAMES, "a fill ma\nabcdefgh fill ma\n").log()[1], ("abcdefgh", ("fill", "ma")))
        self.no_row("abcdefghi fill ma\n", 0)

    def test_rows_that_may_not_be_done(self):
        wish = "hand wish web front 3 1 0 2\n"
        self.no_row("hand back web\n", 0)
        self.no_row(wish + "hand back web\n", 1)
        self.no_row(wish + wish, 1)
        self.no_row(wish + "hand empty mc\n", 1)
        self.no_row(wish + "hand store s web\nhand end wish web\n", 2)
        self.no_row("".join([f"hand group {name} 1\n" for name in "abcde"]), 4)
        self.no_row(wish + "hand end wish web\n" + wish, 2)

    def test_the_first_row_of_several(self):
        self.no_row("hand fill ma\nhand back web\nx\n", 1)
        self.no_row("hand fill ma\nx\nhand back web\n", 1)

    def test_signs_behind_the_last_line_feed(self):
        self.no_row("hand fill ma", 0)
        self.no_row("hand fill ma\nhand fill ma", 1)
        self.no_row("hand fill ma\n ", 1)
        self.no_row("x", 0)
        self.no_row("x\nhand fill ma", 0)
        self.no_row("hand fill ma\nx\ny\nz", 1)

    def test_line_feeds_alone_part_rows(self):
        self.no_row("hand fill ma\x0bhand fill ma\n", 0)
        self.no_row("hand fill ma\n\n", 1)
        self.no_row("\n", 0)

    def test_what_is_no_text(self):
        for thing in odd_things() + [0, 5, [], ["hand fill ma\n"], b"hand fill ma\n"]:
            self.no_row(thing, 0)

    def test_names_go_ahead_of_rows(self):
        self.refused([], "x", errors.BadName, 0)
        self.refused(["ma", "ma"], None, errors.BadName, 1)
        self.refused("ma", 5, errors.BadName, 0)
        self.refused([f"m{letter}" for letter in "abcdefghi"], "", errors.BadName, 8)

    def test_what_is_handed_in_stays(self):
        names = ["mb", "ma"]
        book = book_of(names, "hand empty ma\n")
        self.assertEqual(names, ["mb", "ma"])
        names.append("mc")
        self.assertEqual(book.machines(), ["mb", "ma"])
        before = told(book)
        show_log(book)
        self.assertEqual(told(book), before)


if __name__ == "__main__":
    unittest.main()
