"""Points [30] to [34], and of [35] the log and when two books are equal; [3] and [4] for books."""

import copy
import unittest

from odd_things import odd_things
from placedworks import errors
from placedworks.book import Book

EIGHT = ["ma", "mb", "mc", "md", "me", "mf", "mg", "mh"]
WEB = ("wish", "web", "front", 3, 1, 0, 2)


def told(book):
    """All that a book tells, so that nothing that the book does later can change it."""
    return copy.deepcopy((
        book.groups(), book.wishes(), [book.wish(name) for name in book.wishes()], book.stores(), book.doors(),
        book.rules(), book.emptied(), book.machines(), book.log(),
    ))


def wish(name):
    return ("wish", name, "kind", 1, 0, 0, 1)


class BookCase(unittest.TestCase):
    def setUp(self):
        self.book = Book(["ma", "mb"])

    def do(self, *deeds):
        for deed in deeds:
            self.assertIsNone(self.book.do(deed))

    def refused(self, deed, kind, **fields):
        before = told(self.book)
        with self.assertRaises(errors.PlaceError) as caught:
            self.book.do(deed)
        self.assertIs(caught.exception.__class__, kind, deed)
        for field, thing in fields.items():
            self.assertEqual(getattr(caught.exception, field), thing, deed)
        self.assertEqual(told(self.book), before, deed)


class TestMade(unittest.TestCase):
    def bad(self, machines, at):
        with self.assertRaises(errors.PlaceError) as caught:
            Book(machines)
        self.assertIs(caught.exception.__class__, errors.BadName)
        self.assertEqual(caught.exception.at, at)

    def test_one_and_eight_machines(self):
        for many in range(1, 9):
            self.assertEqual(Book(EIGHT[:many]).machines(), EIGHT[:many])

    def test_the_order_handed_in(self):
        self.assertEqual(Book(["mc", "ma", "mb"]).machines(), ["mc", "ma", "mb"])

    def test_none_and_nine(self):
        self.bad([], 0)
        self.bad(EIGHT + ["mi"], 8)
        self.bad(EIGHT + [None], 8)
        self.bad(EIGHT + EIGHT, 8)

    def test_names_that_stand_ahead(self):
        self.bad(["ma", "ma"], 1)
        self.bad(["ma", "mb", "mc", "ma", "mb"], 3)
        self.bad(EIGHT[:7] + ["ma", "mi"], 7)

    def test_things_that_are_no_words(self):
        for thing in odd_things() + ["", "abcdefghi", "Ma", "m1", "m a", 1, ["ma"], ("ma",)]:
            self.bad([thing], 0)
            self.bad(["ma", thing, "ma"], 1)

    def test_the_first_wrong_one(self):
        self.bad(["ma", "mb", "M", "ma"], 2)
        self.bad(["ma", "mb", "ma", "M"], 2)

    def test_what_is_no_list(self):
        for thing in odd_things() + ["ma", "", 0, 1, ("ma", "mb"), {"ma": 1}, {"ma"}]:
            self.bad(thing, 0)

    def test_nothing_is_told_at_first(self):
        self.assertEqual(told(Book(["ma"])), ([], [], [], [], [], [], [], ["ma"], []))

    def test_the_list_handed_in_stays_and_may_change_later(self):
        names = ["mb", "ma"]
        book = Book(names)
        self.assertEqual(names, ["mb", "ma"])
        names.append("mc")
        names[0] = "mx"
        self.assertEqual(book.machines(), ["mb", "ma"])
        with self.assertRaises(errors.Unknown):
            book.do(("empty", "mx"))


class TestWishes(BookCase):
    def test_a_wish_as_it_is_told(self):
        self.do(WEB)
        self.assertEqual(self.book.wishes(), ["web"])
        self.assertEqual(
            self.book.wish("web"),
            {"kind": "front", "copies": 3, "keep": 1, "edition": 1, "editions": [(0, 2)]},
        )

    def test_copies_told_anew(self):
        self.do(WEB, ("copies", "web", 5, 4))
        self.assertEqual((self.book.wish("web")["copies"], self.book.wish("web")["keep"]), (5, 4))
        self.do(("copies", "web", 0, 0))
        self.assertEqual((self.book.wish("web")["copies"], self.book.wish("web")["keep"]), (0, 0))
        self.assertEqual(self.book.wish("web")["editions"], [(0, 2)])

    def test_editions_and_back(self):
        self.do(WEB, ("edition", "web", 1, 3))
        self.assertEqual((self.book.wish("web")["edition"], self.book.wish("web")["editions"]), (2, [(0, 2), (1, 3)]))
        self.do(("back", "web"))
        self.assertEqual((self.book.wish("web")["edition"], self.book.wish("web")["editions"]), (1, [(0, 2), (1, 3)]))
        self.do(("edition", "web", 2, 1))
        self.assertEqual(
            (self.book.wish("web")["edition"], self.book.wish("web")["editions"]), (3, [(0, 2), (1, 3), (2, 1)]),
        )
        self.do(("back", "web"))
        self.assertEqual(self.book.wish("web")["edition"], 2)
        self.do(("back", "web"))
        self.assertEqual(self.book.wish("web")["edition"], 1)

    def test_wishes_know_nothing_of_each_other(self):
        self.do(WEB, wish("db"), ("edition", "db", 2, 3), ("copies", "db", 6, 5))
        self.assertEqual(self.book.wish("web")["editions"], [(0, 2)])
        self.assertEqual(self.book.wish("web")["copies"], 3)
        self.assertEqual(self.book.wish("db")["kind"], "kind")

    def test_no_back_at_the_first_edition(self):
        self.do(WEB)
        self.refused(("back", "web"), errors.NoBack)
        self.do(("edition", "web", 1, 3), ("back", "web"))
        self.refused(("back", "web"), errors.NoBack)

    def test_the_tenth_edition(self):
        self.do(WEB)
        for _ in range(8):
            self.do(("edition", "web", 1, 1))
        self.assertEqual(len(self.book.wish("web")["editions"]), 9)
        self.refused(("edition", "web", 1, 1), errors.TooMany, most=9)
        self.do(("back", "web"))
        self.refused(("edition", "web", 1, 1), errors.TooMany, most=9)
        self.do(wish("db"), ("edition", "db", 1, 1))

    def test_ranks(self):
        names = ["a", "b", "c", "d"]
        for place in range(8):
            for name in names:
                self.book = Book(["ma"])
                self.do(*[wish(each) for each in names])
                self.do(("rank", name, place))
                rest = [each for each in names if each != name]
                self.assertEqual(self.book.wishes(), rest[:place] + [name] + rest[place:])

    def test_a_new_wish_stands_behind_all(self):
        self.do(wish("b"), wish("a"), ("rank", "a", 0), wish("c"))
        self.assertEqual(self.book.wishes(), ["a", "b", "c"])

    def test_rank_of_one_alone(self):
        self.do(WEB, ("rank", "web", 0), ("rank", "web", 7))
        self.assertEqual(self.book.wishes(), ["web"])

    def test_an_ended_wish_is_gone_and_stays_known(self):
        self.do(wish("a"), wish("b"), wish("c"), ("end", "wish", "b"))
        self.assertEqual(self.book.wishes(), ["a", "c"])
        with self.assertRaises(errors.Unknown):
            self.book.wish("b")
        self.refused(wish("b"), errors.Known, name="b")
        for deed in (("copies", "b", 1, 0), ("edition", "b", 0, 1), ("back", "b"), ("rank", "b", 0),
                     ("store", "s", "b"), ("door", "d", "b"), ("end", "wish", "b")):
            self.refused(deed, errors.Unknown, name="b")

    def test_other_sorts_may_bear_an_ended_wishs_name(self):
        self.do(wish("a"), wish("b"), ("end", "wish", "b"), ("group", "b", 1), ("store", "b", "a"), ("door", "b", "a"),
                ("rule", "b", "b", 1, 1, 0))
        self.assertEqual((self.book.groups(), self.book.stores(), self.book.doors(), self.book.rules()),
                         ([("b", 1)], [("b", "a")], [("b", "a")], [("b", "b", 1, 1, 0)]))

    def test_the_ninth_wish_of_those_there_are(self):
        names = ["a", "b", "c", "d", "e", "f", "g", "h"]
        self.do(*[wish(name) for name in names])
        self.refused(wish("i"), errors.TooMany, most=8)
        self.refused(wish("a"), errors.Known, name="a")
        self.do(("end", "wish", "c"), wish("i"))
        self.assertEqual(self.book.wishes(), ["a", "b", "d", "e", "f", "g", "h", "i"])
        self.refused(wish("c"), errors.Known, name="c")
        self.refused(wish("j"), errors.TooMany, most=8)

    def test_no_such_wish_whatever_is_asked(self):
        self.do(WEB)
        for thing in odd_things() + ["", "Web", "we", "ma", 0, 1, [], ["web"], ("web",)]:
            with self.assertRaises(errors.PlaceError) as caught:
                self.book.wish(thing)
            self.assertIs(caught.exception.__class__, errors.Unknown)
            self.assertIs(caught.exception.name, thing)


class TestOthers(BookCase):
    def test_groups(self):
        self.do(("group", "night", 2), ("group", "day", 9))
        self.assertEqual(self.book.groups(), [("night", 2), ("day", 9)])
        self.refused(("group", "day", 1), errors.Known, name="day")
        self.do(("group", "c", 1), ("group", "d", 1))
        self.refused(("group", "e", 1), errors.TooMany, most=4)
        self.refused(("group", "d", 1), errors.Known, name="d")

    def test_stores(self):
        self.do(WEB, wish("db"), ("store", "t", "web"), ("store", "s", "db"))
        self.assertEqual(self.book.stores(), [("t", "web"), ("s", "db")])
        self.refused(("store", "s", "web"), errors.Known, name="s")
        self.do(("store", "c", "web"), ("store", "d", "web"))
        self.refused(("store", "e", "web"), errors.TooMany, most=4)
        self.refused(("store", "e", "no"), errors.Unknown, name="no")
        self.refused(("store", "s", "no"), errors.Unknown, name="no")
        self.refused(("store", "s", "web"), errors.Known, name="s")

    def test_doors(self):
        self.do(WEB)
        for name in ("f", "e", "d", "c", "b", "a"):
            self.do(("door", name, "web"))
        self.assertEqual(self.book.doors(), [(name, "web") for name in "fedcba"])
        self.refused(("door", "g", "web"), errors.TooMany, most=6)
        self.refused(("door", "a", "web"), errors.Known, name="a")
        self.refused(("door", "a", "no"), errors.Unknown, name="no")

    def test_rules(self):
        self.do(WEB, ("door", "d", "web"))
        for name in ("d", "c", "b", "a"):
            self.do(("rule", name, "d", 20, 4, 2))
        self.assertEqual(self.book.rules(), [(name, "d", 20, 4, 2) for name in "dcba"])
        self.refused(("rule", "e", "d", 1, 1, 0), errors.TooMany, most=4)
        self.refused(("rule", "a", "d", 1, 1, 0), errors.Known, name="a")
        self.refused(("rule", "a", "no", 1, 1, 0), errors.Unknown, name="no")
        self.refused(("rule", "a", "web", 1, 1, 0), errors.Unknown, name="web")

    def test_names_of_one_sort_are_not_those_of_another(self):
        self.do(("group", "x", 1), wish("x"), ("store", "x", "x"), ("door", "x", "x"), ("rule", "x", "x", 1, 1, 0))
        self.refused(("empty", "x"), errors.Unknown, name="x")
        self.refused(("end", "wish", "x"), errors.Used, name="x")
        self.do(("end", "rule", "x"), ("end", "door", "x"), ("end", "store", "x"), ("end", "wish", "x"))
        self.assertEqual(self.book.groups(), [("x", 1)])

    def test_empty_and_fill(self):
        self.book = Book(["mb", "ma", "mc"])
        self.do(("empty", "mc"), ("empty", "mb"), ("empty", "mb"))
        self.assertEqual(self.book.emptied(), ["mb", "mc"])
        self.do(("fill", "mb"), ("fill", "mb"), ("fill", "ma"))
        self.assertEqual(self.book.emptied(), ["mc"])
        self.do(("empty", "ma"))
        self.assertEqual(self.book.emptied(), ["ma", "mc"])
        self.assertEqual(self.book.machines(), ["mb", "ma", "mc"])
        self.assertEqual(len(self.book.log()), 7)

    def test_machines_that_there_are_not(self):
        self.do(wish("mc"))
        self.refused(("empty", "mc"), errors.Unknown, name="mc")
        self.refused(("fill", "mc"), errors.Unknown, name="mc")


class TestEnds(BookCase):
    def setUp(self):
        BookCase.setUp(self)
        self.do(WEB, wish("db"), ("door", "d", "web"), ("store", "t", "web"), ("store", "s", "web"),
                ("door", "c", "web"), ("rule", "r", "c", 1, 1, 0), ("rule", "q", "c", 2, 1, 0), ("store", "o", "db"))

    def test_used_stores_ahead_of_doors_in_the_order_told(self):
        self.refused(("end", "wish", "web"), errors.Used, name="t")
        self.do(("end", "store", "t"))
        self.refused(("end", "wish", "web"), errors.Used, name="s")
        self.do(("end", "store", "s"))
        self.refused(("end", "wish", "web"), errors.Used, name="d")
        self.do(("end", "door", "d"))
        self.refused(("end", "wish", "web"), errors.Used, name="c")
        self.refused(("end", "door", "c"), errors.Used, name="r")
        self.do(("end", "rule", "r"))
        self.refused(("end", "door", "c"), errors.Used, name="q")
        self.do(("end", "rule", "q"), ("end", "door", "c"), ("end", "wish", "web"))
        self.assertEqual(told(self.book)[1:6], (["db"], [self.book.wish("db")], [("o", "db")], [], []))

    def test_ends_of_what_is_not_used(self):
        self.do(("end", "door", "d"), ("end", "store", "o"), ("end", "wish", "db"))
        self.assertEqual(self.book.wishes(), ["web"])
        self.assertEqual(self.book.doors(), [("c", "web")])
        self.assertEqual(self.book.stores(), [("t", "web"), ("s", "web")])

    def test_names_told_again_stand_last(self):
        self.do(("end", "store", "t"), ("store", "t", "db"), ("end", "door", "d"), ("door", "d", "db"),
                ("end", "rule", "r"), ("rule", "r", "d", 3, 2, 1))
        self.assertEqual(self.book.stores(), [("s", "web"), ("o", "db"), ("t", "db")])
        self.assertEqual(self.book.doors(), [("c", "web"), ("d", "db")])
        self.assertEqual(self.book.rules(), [("q", "c", 2, 1, 0), ("r", "d", 3, 2, 1)])
        self.refused(("end", "wish", "web"), errors.Used, name="s")
        self.refused(("end", "wish", "db"), errors.Used, name="o")

    def test_one_told_again_is_used_in_its_new_place(self):
        self.do(("end", "store", "t"), ("store", "t", "web"))
        self.refused(("end", "wish", "web"), errors.Used, name="s")

    def test_ends_of_what_there_is_not(self):
        for sort in ("wish", "store", "door", "rule"):
            self.refused(("end", sort, "no"), errors.Unknown, name="no")
        self.refused(("end", "wish", "t"), errors.Unknown, name="t")
        self.refused(("end", "store", "d"), errors.Unknown, name="d")
        self.refused(("end", "door", "t"), errors.Unknown, name="t")
        self.refused(("end", "rule", "d"), errors.Unknown, name="d")
        self.do(("end", "store", "t"))
        self.refused(("end", "store", "t"), errors.Unknown, name="t")

    def test_there_is_room_again_behind_an_end(self):
        self.do(("store", "p", "db"))
        self.refused(("store", "n", "db"), errors.TooMany, most=4)
        self.do(("end", "store", "t"), ("store", "n", "db"))
        self.refused(("store", "t", "db"), errors.TooMany, most=4)
        self.do(("rule", "x", "d", 1, 1, 0), ("rule", "y", "d", 1, 1, 0))
        self.refused(("rule", "z", "d", 1, 1, 0), errors.TooMany, most=4)
        self.do(("end", "rule", "x"), ("rule", "z", "d", 1, 1, 0))
        self.do(*[("door", name, "db") for name in "efgh"])
        self.refused(("door", "i", "db"), errors.TooMany, most=6)
        self.do(("end", "door", "e"), ("door", "i", "db"))


class TestRefusals(BookCase):
    def test_what_is_no_deed_whatever_it_is(self):
        for thing in odd_things() + ["", "back web", 0, [], list(WEB), WEB[:-1], WEB + (1,), ("back", "Web"),
                                     ("copies", "web", 2, 2), ("rank", "web", 8), ("rank", "web", True)]:
            self.refused(thing, errors.NoDeed)

    def test_no_deed_goes_ahead_of_unknown(self):
        self.refused(("copies", "no", 7, 0), errors.NoDeed)

    def test_unknown_wishes(self):
        for deed in (("copies", "no", 1, 0), ("edition", "no", 0, 1), ("back", "no"), ("rank", "no", 0),
                     ("store", "s", "no"), ("door", "d", "no"), ("rule", "r", "no", 1, 1, 0), ("empty", "no"),
                     ("fill", "no"), ("end", "wish", "no"), ("end", "store", "no"), ("end", "door", "no"),
                     ("end", "rule", "no")):
            self.refused(deed, errors.Unknown, name="no")

    def test_known_wish(self):
        self.do(WEB)
        self.refused(WEB, errors.Known, name="web")
        self.refused(("wish", "web", "other", 1, 0, 0, 1), errors.Known, name="web")

    def test_kinds_may_be_the_same(self):
        self.do(WEB, ("wish", "other", "front", 1, 0, 0, 1))
        self.assertEqual(self.book.wish("other")["kind"], "front")

    def test_a_refused_deed_is_not_in_the_log(self):
        self.do(WEB)
        self.refused(("back", "web"), errors.NoBack)
        self.assertEqual(self.book.log(), [("hand", WEB)])


class TestLog(BookCase):
    def test_by_whom(self):
        self.book.do(WEB)
        self.book.do(("copies", "web", 2, 1), by="more")
        self.book.do(("rank", "web", 0), by="hand")
        self.assertEqual(
            self.book.log(), [("hand", WEB), ("more", ("copies", "web", 2, 1)), ("hand", ("rank", "web", 0))],
        )

    def test_by_is_handed_in_by_its_name_alone(self):
        with self.assertRaises(TypeError):
            self.book.do(WEB, "more")

    def test_deeds_that_change_nothing_are_logged(self):
        self.do(("fill", "ma"), ("fill", "ma"))
        self.assertEqual(self.book.log(), [("hand", ("fill", "ma"))] * 2)


class TestEqual(BookCase):
    def test_equal_where_machines_and_deeds_are(self):
        other = Book(["ma", "mb"])
        self.assertTrue(self.book == other)
        self.book.do(WEB)
        self.assertFalse(self.book == other)
        self.assertTrue(self.book != other)
        other.do(WEB, by="more")
        self.assertTrue(self.book == other)
        self.assertFalse(self.book != other)

    def test_other_machines(self):
        for names in (["ma"], ["mb", "ma"], ["ma", "mb", "mc"], ["ma", "mc"]):
            self.assertFalse(self.book == Book(names))

    def test_the_same_state_by_other_deeds(self):
        self.book.do(("fill", "ma"))
        self.assertFalse(self.book == Book(["ma", "mb"]))
        other = Book(["ma", "mb"])
        other.do(("fill", "mb"))
        self.assertFalse(self.book == other)

    def test_another_order_of_deeds(self):
        other = Book(["ma", "mb"])
        self.do(wish("a"), ("group", "day", 1))
        other.do(("group", "day", 1))
        other.do(wish("a"))
        self.assertFalse(self.book == other)

    def test_equal_to_nothing_else(self):
        for thing in (None, 0, True, "", [], ["ma", "mb"], {}, object(), self.book.machines(), Book):
            self.assertIs(self.book == thing, False)
            self.assertIs(thing == self.book, False)


class TestNew(BookCase):
    def setUp(self):
        BookCase.setUp(self)
        self.do(("group", "day", 3), WEB, ("store", "s", "web"), ("door", "d", "web"), ("rule", "r", "d", 1, 1, 0),
                ("empty", "mb"), wish("db"), ("end", "wish", "db"))

    def test_what_is_done_to_what_is_told_changes_nothing(self):
        before = told(self.book)
        for one in (self.book.groups(), self.book.wishes(), self.book.stores(), self.book.doors(), self.book.rules(),
                    self.book.emptied(), self.book.machines(), self.book.log()):
            self.assertIs(one.__class__, list)
            one.append("x")
            one[0] = "y"
        row = self.book.wish("web")
        row["editions"].append((9, 9))
        row["copies"] = 9
        row["x"] = 1
        self.assertEqual(told(self.book), before)
        self.do(("edition", "web", 1, 1))
        self.assertEqual(self.book.wish("web")["editions"], [(0, 2), (1, 1)])

    def test_what_was_told_stays_when_deeds_are_done(self):
        row, names, log = self.book.wish("web"), self.book.wishes(), self.book.log()
        self.do(("edition", "web", 1, 1), ("copies", "web", 1, 0), wish("a"), ("rank", "a", 0))
        self.assertEqual((row["edition"], row["editions"], row["copies"], row["keep"]), (1, [(0, 2)], 3, 1))
        self.assertEqual(names, ["web"])
        self.assertEqual(len(log), 8)

    def test_questions_change_nothing(self):
        self.assertEqual(told(self.book), told(self.book))

    def test_a_copied_book_goes_on_by_itself(self):
        further = [("group", "night", 1), ("edition", "web", 1, 1), ("copies", "web", 1, 0), wish("a"),
                   ("rank", "a", 0), ("store", "t", "a"), ("door", "e", "a"), ("rule", "q", "e", 1, 1, 0),
                   ("empty", "ma"), ("fill", "mb"), ("end", "rule", "r"), ("end", "door", "d"), ("end", "store", "s"),
                   ("end", "wish", "web")]
        twin = self.book.copied()
        self.assertIsInstance(twin, Book)
        self.assertTrue(twin == self.book)
        before = told(self.book)
        self.assertEqual(told(twin), before)
        for deed in further:
            twin.do(deed)
        self.assertEqual(told(self.book), before)
        self.assertFalse(twin == self.book)
        behind = told(twin)
        self.do(*further)
        self.assertEqual(told(twin), behind)
        self.assertEqual(told(self.book), behind)
        with self.assertRaises(errors.Known):
            twin.do(WEB)

    def test_a_copied_book_knows_the_ended_wishes(self):
        twin = self.book.copied()
        with self.assertRaises(errors.Known):
            twin.do(wish("db"))

    def test_what_ends_in_a_copied_book_is_not_known_to_the_other(self):
        twin = self.book.copied()
        twin.do(wish("a"))
        twin.do(("end", "wish", "a"))
        self.do(wish("a"), wish("b"), ("end", "wish", "b"))
        twin.do(wish("b"))
        self.assertEqual((self.book.wishes(), twin.wishes()), (["web", "a"], ["web", "b"]))

    def test_a_copy_keeps_by_whom(self):
        self.book.do(("fill", "mb"), by="r")
        self.assertEqual(self.book.copied().log(), self.book.log())


if __name__ == "__main__":
    unittest.main()
