"""Point [106]: happenings as texts; of [2] and [3] what is told of texts that are read."""

import unittest

from house_by_chance import ChanceHouse
from odd_things import odd_things
from placedworks import errors
from placedworks.happenings import read_happening, show_happening

PAIRS = [
    (("rise", "ma"), "rise ma"),
    (("fall", "mb"), "fall mb"),
    (("cut", "ma"), "cut ma"),
    (("join", "machines"), "join machines"),
    (("late", "ma", 0), "late ma 0"),
    (("late", "ma", 2), "late ma 2"),
    (("twice", "ma", False), "twice ma no"),
    (("twice", "ma", True), "twice ma yes"),
    (("fail", 0), "fail 0"),
    (("fail", 17), "fail 17"),
    (("fail", 1000000000), "fail 1000000000"),
    (("ask", "d", "day", 3), "ask d day 3"),
    (("ask", "d", "day", 1), "ask d day 1"),
    (("ask", "d", "day", 40), "ask d day 40"),
    (("write", "s", "two words"), "write s two words"),
    (("write", "s", ""), "write s "),
    (("write", "s", " "), "write s  "),
    (("write", "s", "  two words "), "write s   two words "),
    (("write", "s", "twelve signs"), "write s twelve signs"),
    (("write", "write", "write"), "write write write"),
    (("write", "s", "~!\"#$%&'()*+"), "write s ~!\"#$%&'()*+"),
    (("deed", ("copies", "web", 2, 1)), "deed copies web 2 1"),
    (("deed", ("wish", "web", "front", 3, 1, 0, 2)), "deed wish web front 3 1 0 2"),
    (("deed", ("end", "rule", "r")), "deed end rule r"),
    (("deed", ("empty", "zz")), "deed empty zz"),
    (("down",), "down"),
    (("up",), "up"),
    (("again",), "again"),
]


class TestWrittenAndRead(unittest.TestCase):
    def test_of_each_word(self):
        for row, text in PAIRS:
            self.assertEqual(show_happening(row), text)
            self.assertEqual(read_happening(text), row)
            # True and 1 are equal, so kinds are held, too.
            self.assertEqual([part.__class__ for part in read_happening(text)], [part.__class__ for part in row])

    def test_by_chance(self):
        for seed in range(30):
            case = ChanceHouse(seed, 0)
            for _ in range(100):
                row = case.row([1, 2, 30])
                self.assertEqual(read_happening(show_happening(row)), row)

    def test_what_is_handed_in_stays(self):
        row = ("deed", ("copies", "web", 2, 1))
        show_happening(row)
        self.assertEqual(row, ("deed", ("copies", "web", 2, 1)))


class TestRefused(unittest.TestCase):
    def refused(self, text):
        with self.assertRaises(errors.PlaceError) as caught:
            read_happening(text)
        self.assertIs(caught.exception.__class__, errors.NoText, text.__class__)

    def test_whatever_is_no_text(self):
        for thing in odd_things() + [1, ("rise", "ma"), ["rise ma"]]:
            self.refused(thing)

    def test_texts_that_are_none(self):
        for text in (
            "", " ", "\n", "x", "turn", "rise", "rise ", "rise ma ", " rise ma", "rise  ma", "rise ma mb", "rise Ma",
            "rise machinery", "rise m1", "Rise ma", "rise\tma", "rise ma\n", "\nrise ma", "risema", "fall", "fall ma x",
            "cut", "cut ", "join", "join ma ma", "late ma", "late ma ", "late ma 3", "late ma -1", "late ma 00",
            "late ma 01", "late ma 1 ", "late ma  1", "late ma x", "late 1", "late ma 1 1", "late ma +1", "late ma 1.0",
            "twice ma", "twice ma ", "twice ma Yes", "twice ma yes ", "twice ma True", "twice ma 1", "twice ma none",
            "twice ma yes no", "twice yes", "fail", "fail ", "fail x", "fail -1", "fail 01", "fail 00", "fail 1000000001",
            "fail 9999999999", "fail 10000000000", "fail 01000000000", "fail 1 ", "fail  1", "fail 1 2", "fail +1",
            "ask", "ask d", "ask d day", "ask d day 0", "ask d day 41", "ask d day 04", "ask d day 3 ", "ask d  day 3",
            "ask d day three", "ask d day 3 3", "ask D day 3", "ask d Day 3", "ask d day 10000000000", "ask d 3",
            "write", "write ", "write s", "write S x", "write  s x", "write s thirteen sign", "write s a\nb",
            "write s x\n", "write s \t", "write s \u00e9", "write s \x7f", "write s \x1f", "write s              ",
            "write toolongss x", "deed", "deed ", "deed back", "deed  back web", "deed back web ", "deed copies web 2 2",
            "deed copies web 02 1", "deed x", "deed wish web front 3 1 0 20000000000", "copies web 2 1", "deed deed back web",
            "down ", "down ma", "Down", " down", "up ", "up up", "again ", "again again", "again\n", "\u0661",
            "fail \u0661", "late ma \u00b2",
        ):
            self.refused(text)

    def test_other_signs_at_each_place(self):
        for row, text in PAIRS:
            if row[0] != "write":
                for at in range(len(text) + 1):
                    for sign in ("\n", "\t", "A", "_", "\u00e9", "  "):
                        self.refused(text[:at] + sign + text[at:])


if __name__ == "__main__":
    unittest.main()
