"""Points [22] and [23], and what point [2] says of numbers and signs in texts that are read."""

import unittest

from odd_things import odd_things
from placedworks.deeds import is_deed
from placedworks.errors import NoRow, NoText, PlaceError
from placedworks.texts import read_deed, read_deeds, read_number, show_deed, show_deeds
from test_deeds import RIGHT

WRITTEN = [
    ("group day 3", ("group", "day", 3)),
    ("wish web front 3 1 0 2", ("wish", "web", "front", 3, 1, 0, 2)),
    ("copies web 2 1", ("copies", "web", 2, 1)),
    ("edition web 1 3", ("edition", "web", 1, 3)),
    ("back web", ("back", "web")),
    ("rank web 0", ("rank", "web", 0)),
    ("store s web", ("store", "s", "web")),
    ("door d web", ("door", "d", "web")),
    ("rule more d 20 4 2", ("rule", "more", "d", 20, 4, 2)),
    ("empty ma", ("empty", "ma")),
    ("fill ma", ("fill", "ma")),
    ("end wish web", ("end", "wish", "web")),
    ("end store s", ("end", "store", "s")),
    ("end door d", ("end", "door", "d")),
    ("end rule more", ("end", "rule", "more")),
]


class TextCase(unittest.TestCase):
    def refused(self, text):
        with self.assertRaises(PlaceError) as caught:
            read_deed(text)
        self.assertIs(caught.exception.__class__, NoText, text)

    def refused_at(self, text, at):
        with self.assertRaises(PlaceError) as caught:
            read_deeds(text)
        self.assertIs(caught.exception.__class__, NoRow, text)
        self.assertEqual(caught.exception.at, at, text)


class TestOneDeed(TextCase):
    def test_written_and_read(self):
        for text, deed in WRITTEN:
            self.assertEqual(show_deed(deed), text)
            self.assertEqual(read_deed(text), deed)
            self.assertIsInstance(read_deed(text), tuple)

    def test_numbers_are_read_as_numbers(self):
        for part in read_deed("wish web front 1 0 1 1")[3:]:
            self.assertIs(part.__class__, int)

    def test_each_deed_is_read_back(self):
        for deed in RIGHT:
            self.assertEqual(read_deed(show_deed(deed)), deed)

    def test_what_is_read_is_a_deed(self):
        for text, _ in WRITTEN:
            self.assertTrue(is_deed(read_deed(text)))

    def test_blanks(self):
        for text, _ in WRITTEN:
            self.refused(" " + text)
            self.refused(text + " ")
            self.refused(text.replace(" ", "  "))
            self.refused(text.replace(" ", ""))
            self.refused(text.replace(" ", "\t"))
            self.refused(text.replace(" ", "\n"))
            self.refused(text.replace(" ", "\u00a0"))

    def test_line_feeds_and_other_signs(self):
        for text, _ in WRITTEN:
            for sign in "\n\r\t\0\x0b\x0c\x1c\x85\u2028+-_.~":
                self.refused(text + sign)
                self.refused(sign + text)

    def test_noughts_ahead(self):
        self.assertEqual(read_deed("rank web 0"), ("rank", "web", 0))
        for text in ("rank web 00", "rank web 01", "group day 03", "rule more d 010 4 2", "copies web 2 00",
                     "rank web 0000000001"):
            self.refused(text)

    def test_numbers_written_otherwise(self):
        for text in ("+3", "-3", "-0", "3.0", "3e0", "0x3", "1_0", "", "three", "\u0663", "\u00b3", "\uff13", "True"):
            self.refused("group day " + text)

    def test_numbers_out_of_bounds(self):
        for text in ("group day 0", "group day 10", "rank web 8", "wish web front 7 0 0 1", "wish web front 2 2 0 1",
                     "wish web front 0 1 0 1", "edition web 3 1", "edition web 0 4", "edition web 0 0",
                     "rule more d 21 1 0", "rule more d 0 1 0"):
            self.refused(text)

    def test_ten_and_eleven_figures(self):
        for text in ("group day 9999999999", "group day 10000000000", "group day " + "9" * 5000):
            self.refused(text)

    def test_words_of_other_lengths(self):
        self.assertEqual(read_deed("back a"), ("back", "a"))
        self.assertEqual(read_deed("back abcdefgh"), ("back", "abcdefgh"))
        for text in ("back ", "back abcdefghi", "back Web", "back w3b", "back \u00e4", "back 3"):
            self.refused(text)

    def test_too_few_parts_and_too_many(self):
        for text, _ in WRITTEN:
            self.refused(text.rpartition(" ")[0])
            self.refused(text.partition(" ")[2])
            for more in (" a", " 1", " 0"):
                self.refused(text + more)

    def test_no_such_sort(self):
        for text in ("", " ", "web", "groups day 3", "Group day 3", "end group day", "turn", "word a", "~"):
            self.refused(text)

    def test_whatever_is_handed_in(self):
        for thing in odd_things() + [0, 3, [], ["back web"], ("back", "web"), b"back web", {"back web": 1}]:
            self.refused(thing)

    def test_long_texts(self):
        self.refused("back " + "a" * 7995)
        self.refused(" " * 8000)


class TestNumbersOfTexts(unittest.TestCase):
    def test_ten_figures_and_eleven(self):
        self.assertEqual(read_number("9999999999"), 9999999999)
        self.assertEqual(read_number("1000000000"), 1000000000)
        self.assertIsNone(read_number("10000000000"))
        self.assertIsNone(read_number("1" * 5000))

    def test_noughts(self):
        self.assertEqual(read_number("0"), 0)
        self.assertEqual(read_number("10"), 10)
        for text in ("00", "01", "", "-1", "+1", " 1", "1 ", "1\n", "\u0661", "\u00b2", "1_1", "a"):
            self.assertIsNone(read_number(text), text)


class TestManyDeeds(TextCase):
    def test_written_and_read(self):
        deeds = [deed for _, deed in WRITTEN]
        text = "".join([text + "\n" for text, _ in WRITTEN])
        self.assertEqual(show_deeds(deeds), text)
        self.assertEqual(read_deeds(text), deeds)

    def test_the_empty_list_and_the_empty_text(self):
        self.assertEqual(show_deeds([]), "")
        self.assertEqual(read_deeds(""), [])

    def test_the_same_deed_twice(self):
        self.assertEqual(read_deeds("back web\nback web\n"), [("back", "web"), ("back", "web")])

    def test_the_first_row_that_is_none(self):
        self.refused_at("back\n", 0)
        self.refused_at("back web\nback\nrank\n", 1)
        self.refused_at("back web\nback web\nback Web\n", 2)
        self.refused_at("\n", 0)
        self.refused_at("back web\n\n", 1)
        self.refused_at("\nback web\n", 0)
        self.refused_at("back web\n group day 3\n", 1)

    def test_signs_behind_the_last_line_feed(self):
        self.refused_at("back web", 0)
        self.refused_at(" ", 0)
        self.refused_at("x", 0)
        self.refused_at("back web\nback web", 1)
        self.refused_at("back web\n ", 1)
        self.refused_at("back web\nback web\nx", 2)

    def test_a_wrong_row_goes_ahead_of_signs_behind(self):
        self.refused_at("back web\nx\nback web\nback web", 1)
        self.refused_at("x\nback web", 0)

    def test_line_feeds_alone_part_the_rows(self):
        self.refused_at("back web\r\n", 0)
        self.refused_at("back web\n\rback web\n", 1)
        self.refused_at("back web\x0bback web\n", 0)
        self.refused_at("back web\u2028back web\n", 0)
        self.refused_at("back web\x85", 0)

    def test_whatever_is_handed_in(self):
        for thing in odd_things() + [0, 1, [], ["back web\n"], [("back", "web")], b"back web\n"]:
            self.refused_at(thing, 0)

    def test_what_is_handed_in_stays_and_what_is_told_is_new(self):
        deeds = [("back", "web"), ("rank", "web", 1)]
        text = show_deeds(deeds)
        self.assertEqual(deeds, [("back", "web"), ("rank", "web", 1)])
        told = read_deeds(text)
        told.append("x")
        self.assertEqual(read_deeds(text), deeds)
        empty = read_deeds("")
        empty.append("x")
        self.assertEqual(read_deeds(""), [])

    def test_many_rows(self):
        deeds = [("group", "day", 1 + at % 9) for at in range(2000)]
        self.assertEqual(read_deeds(show_deeds(deeds)), deeds)


if __name__ == "__main__":
    unittest.main()
