"""Points [110] and [111]: pages, how they are read, and what has changed between two; of [3] what is told."""

import copy
import unittest

from house_by_chance import played
from house_by_words import told_by_house
from odd_things import odd_things
from placedworks import errors
from placedworks.house import House
from placedworks.pages import changes, read_page, show_page

MACHINES = [("ma", 2), ("mb", 2), ("mc", 1)]
FIRST = [("rise", "ma"), ("rise", "mb"), ("deed", ("wish", "web", "front", 2, 1, 0, 2)), ("deed", ("store", "s", "web")),
         ("deed", ("group", "day", 2)), ("deed", ("door", "d", "web"))]

PAGE = (
    "turn 7\nkeeper up\n"
    "machine ma 2 1 stands\ncopy 1 web front 1 answering\ncopy 3 db back 1 starting\n"
    "machine mb 2 1 stands\ncopy 2 web front 1 answering\ncopy 4 db back 1 starting\n"
    "machine mc 1 0 fallen\n"
    "wish db 2 2 1 1\nwish web 2 2 1 1\n"
    "lease s 1 1 13\n"
    "store s web 1\nstore a db 0\n"
    "door d web\ndoor c db\n"
)


def page_by_words(house):
    """Point [110], word by word."""
    keeper, book = house.keeper(), house.keeper().book()
    text = f"turn {house.turn()}\nkeeper {'up' if house.is_up() else 'down'}\n"
    for name in sorted(book.machines()):
        machine = house.machine(name)
        way = "cut" if house.is_cut(name) else "stands" if machine.stands() else "fallen"
        text += f"machine {name} {machine.berths()} {machine.life()} {way}\n"
        for number, wish, kind, edition, state in machine.lying():
            text += f"copy {number} {wish} {kind} {edition} {state}\n"
    runs = dict(keeper.runs())
    for name in book.wishes():
        wish = book.wish(name)
        text += f"wish {name} {runs.get(name, 0)} {wish['copies']} {wish['keep']} {wish['edition']}\n"
    for store, token, number, until in keeper.all_leases():
        text += f"lease {store} {token} {number} {until}\n"
    for store, wish in book.stores():
        text += f"store {store} {wish} {len(house.rows_of(store))}\n"
    for door, wish in book.doors():
        text += f"door {door} {wish}\n"
    return text


class PageCase(unittest.TestCase):
    def setUp(self):
        self.house = House(list(MACHINES))
        self.house.play(list(FIRST))

    def wait(self, turns):
        for _ in range(turns):
            self.house.play([])

    def rows(self, word):
        return [row for row in show_page(self.house).split("\n") if row.startswith(word + " ")]


class TestShown(PageCase):
    def test_of_a_new_house(self):
        self.assertEqual(show_page(House([("ma", 1), ("mb", 6)])),
                         "turn 0\nkeeper up\nmachine ma 1 0 fallen\nmachine mb 6 0 fallen\n")

    def test_of_all_rows_in_order(self):
        self.wait(3)
        self.house.play([("write", "s", "x"), ("deed", ("wish", "db", "back", 2, 1, 2, 1)), ("deed", ("rank", "db", 0)),
                         ("deed", ("store", "a", "db")), ("deed", ("door", "c", "db"))])
        self.wait(2)
        self.assertEqual(show_page(self.house), PAGE)

    def test_keeper_down(self):
        self.house.play([("down",)])
        self.assertEqual(self.rows("keeper"), ["keeper down"])
        self.house.play([("up",)])
        self.assertEqual(self.rows("keeper"), ["keeper up"])

    def test_ways_of_machines(self):
        self.assertEqual(self.rows("machine"), ["machine ma 2 1 stands", "machine mb 2 1 stands", "machine mc 1 0 fallen"])
        self.house.play([("cut", "ma"), ("fall", "mb"), ("cut", "mc")])
        self.assertEqual(self.rows("machine"), ["machine ma 2 1 cut", "machine mb 2 1 fallen", "machine mc 1 0 cut"])
        self.house.play([("join", "ma"), ("fall", "ma"), ("rise", "mb"), ("rise", "mc")])
        self.assertEqual(self.rows("machine"), ["machine ma 2 1 fallen", "machine mb 2 2 stands", "machine mc 1 1 cut"])

    def test_copies_as_they_lie_in_truth(self):
        self.wait(1)
        self.assertEqual((self.rows("copy"), len(self.house.keeper().planned())), ([], 2))
        self.wait(1)
        self.assertEqual(self.rows("copy"), ["copy 1 web front 1 answering", "copy 2 web front 1 answering"])
        self.house.play([("fail", 1), ("deed", ("edition", "web", 2, 1))])
        self.assertEqual(self.rows("copy"), ["copy 1 web front 1 starting", "copy 2 web front 1 answering"])
        self.house.play([("cut", "mb")])
        self.wait(6)
        # What lies on a machine that is cut off is told, too.
        self.assertIn("copy 2 web front 1 answering", self.rows("copy"))
        self.assertNotIn(2, [row[0] for row in self.house.keeper().planned()])

    def test_wishes_by_rank(self):
        self.house.play([("deed", ("wish", "db", "back", 6, 5, 0, 1)), ("deed", ("rank", "db", 0)),
                         ("deed", ("edition", "web", 0, 1))])
        self.assertEqual(self.rows("wish"), ["wish db 2 6 5 1", "wish web 2 2 1 2"])
        self.house.play([("deed", ("back", "web")), ("deed", ("copies", "web", 1, 0)), ("deed", ("empty", "ma"))])
        self.assertEqual(self.rows("wish"), ["wish db 1 6 5 1", "wish web 1 1 0 1"])

    def test_leases(self):
        self.wait(3)
        self.assertEqual(self.rows("lease"), ["lease s 1 1 10"])
        self.house.play([("deed", ("store", "a", "web"))])
        self.assertEqual(self.rows("lease"), ["lease a 1 1 11", "lease s 1 1 11"])
        self.assertEqual(self.rows("store"), ["store s web 0", "store a web 0"])

    def test_a_lease_that_ran_out(self):
        self.wait(3)
        self.house.play([("deed", ("end", "store", "s"))])
        self.wait(9)
        self.assertEqual((self.rows("lease"), self.rows("store")), (["lease s 1 1 10"], []))

    def test_a_lease_that_was_let_go(self):
        self.wait(3)
        self.house.play([("deed", ("end", "store", "s")), ("deed", ("end", "door", "d")), ("deed", ("end", "wish", "web"))])
        self.assertEqual(self.rows("lease"), ["lease s 1 1 10"])
        self.wait(2)
        self.assertEqual((self.rows("lease"), self.rows("door"), self.rows("wish")), ([], [], []))

    def test_rows_of_stores(self):
        self.wait(3)
        self.house.play([("write", "s", "x"), ("write", "s", "y")])
        self.assertEqual(self.rows("store"), ["store s web 0"])
        self.wait(1)
        self.assertEqual(self.rows("store"), ["store s web 2"])

    def test_doors_by_the_books_order(self):
        self.house.play([("deed", ("door", "c", "web")), ("deed", ("door", "e", "web"))])
        self.assertEqual(self.rows("door"), ["door d web", "door c web", "door e web"])

    def test_by_chance(self):
        for place, case, house, rows in played(range(40), 30):
            house.play(rows)
            page = show_page(house)
            self.assertEqual(page, page_by_words(house), place)
            self.assertEqual([" ".join(map(str, row)) for row in read_page(page)], page.split("\n")[:-1], place)

    def test_the_house_stays(self):
        self.wait(4)
        before = copy.deepcopy((told_by_house(self.house), self.house.played()))
        self.assertEqual(show_page(self.house), show_page(self.house))
        self.assertEqual((told_by_house(self.house), self.house.played()), before)


class TestRead(unittest.TestCase):
    def no_row(self, text, at):
        with self.assertRaises(errors.PlaceError) as caught:
            read_page(text)
        self.assertIs(caught.exception.__class__, errors.NoRow)
        self.assertEqual(caught.exception.at, at, text)

    def test_rows(self):
        self.assertEqual(read_page(PAGE), [
            ("turn", 7), ("keeper", "up"), ("machine", "ma", 2, 1, "stands"), ("copy", 1, "web", "front", 1, "answering"),
            ("copy", 3, "db", "back", 1, "starting"), ("machine", "mb", 2, 1, "stands"),
            ("copy", 2, "web", "front", 1, "answering"), ("copy", 4, "db", "back", 1, "starting"),
            ("machine", "mc", 1, 0, "fallen"), ("wish", "db", 2, 2, 1, 1), ("wish", "web", 2, 2, 1, 1), ("lease", "s", 1, 1, 13), ("store", "s", "web", 1), ("store", "a", "db", 0),
            ("door", "d", "web"), ("door", "c", "db"),
        ])

    def test_each_choice(self):
        for text, row in [
            ("keeper down", ("keeper", "down")), ("machine m 1 1 cut", ("machine", "m", 1, 1, "cut")),
            ("machine m 1 1 fallen", ("machine", "m", 1, 1, "fallen")), ("copy 1 a b 1 failed", ("copy", 1, "a", "b", 1, "failed")),
            ("copy 1 a b 1 starting", ("copy", 1, "a", "b", 1, "starting")),
        ]:
            self.assertEqual(read_page(text + "\n"), [row])

    def test_the_empty_text(self):
        self.assertEqual(read_page(""), [])

    def test_whatever_order_and_twice(self):
        rows = PAGE.split("\n")[:-1]
        self.assertEqual(read_page("\n".join(rows[::-1]) + "\n"), read_page(PAGE)[::-1])
        self.assertEqual(read_page(PAGE + PAGE), read_page(PAGE) * 2)
        self.assertEqual(read_page(PAGE.partition("\n")[2]), read_page(PAGE)[1:])

    def test_numbers_keep_to_no_other_bounds(self):
        self.assertEqual(read_page("turn 9999999999\nmachine m 0 0 cut\nmachine m 99 0 cut\nwish w 9 0 9 0\n"),
                         [("turn", 9999999999), ("machine", "m", 0, 0, "cut"), ("machine", "m", 99, 0, "cut"),
                          ("wish", "w", 9, 0, 9, 0)])
        self.no_row("turn 10000000000\n", 0)

    def test_a_part_more_and_one_less(self):
        for at, row in enumerate(PAGE.split("\n")[:-1]):
            ahead = "".join([each + "\n" for each in PAGE.split("\n")[:at]])
            for wrong in (row + " 1", row + " web", row + " ", " " + row, row.rpartition(" ")[0], row.replace(" ", "  ", 1),
                          row.partition(" ")[2], row.upper(), row + "x1", row.partition(" ")[0]):
                self.no_row(ahead + wrong + "\n" + PAGE, at)

    def test_rows_that_are_none(self):
        for row in ("", " ", "x", "turn", "turn x", "turn 07", "turn -1", "turn +7", "keeper", "keeper gone", "keeper Up",
                    "keeper 1", "machine Ma 2 1 stands", "machine ma 02 1 stands", "machine ma 2 1 gone",
                    "machine ma 2 x stands", "machine ma 2 1 starting", "machine ma 2 1 up", "machine m1 2 1 stands",
                    "copy x web front 1 answering", "copy 1 Web front 1 answering", "copy 1 web front x answering",
                    "copy 1 web front 1 stands", "copy 1 web 1 1 answering", "copy 1 web front 1 Failed",
                    "copy 01 web front 1 failed", "copy 10000000000 web front 1 failed", "wish web 1 2 3", "wish web 1 2 3 x",
                    "wish toolongss 1 2 3 4", "lease s 1 1", "lease s 1 x 1", "lease 1 1 1 1", "store s web", "store s web x",
                    "store s 1 1", "door d", "door d 1", "door d web 1", "group day 2", "\tturn 7", "turn\t7", "turn \u0667"):
            self.no_row(row + "\n", 0)
            self.no_row("turn 1\ndoor d web\n" + row + "\nx\n", 2)

    def test_signs_behind_the_last_line_feed(self):
        self.no_row("turn 7", 0)
        self.no_row(PAGE + "turn 7", 16)
        self.no_row(PAGE + " ", 16)
        self.no_row("turn 7\nx\nturn", 1)

    def test_no_text(self):
        for thing in odd_things() + [1, ["turn 7"]]:
            self.no_row(thing, 0)


class TestChanges(PageCase):
    def test_of_the_same_page(self):
        self.assertEqual(changes(PAGE, PAGE), ([], []))
        self.assertEqual(changes("", ""), ([], []))

    def test_gone_and_come(self):
        other = PAGE.replace("turn 7", "turn 8").replace("copy 3 db back 1 starting\n", "").replace("lease s 1", "lease s 2")
        gone, come = ["copy 3 db back 1 starting", "lease s 1 1 13", "turn 7"], ["lease s 2 1 13", "turn 8"]
        self.assertEqual(changes(PAGE, other), (gone, come))
        self.assertEqual(changes(other, PAGE), (come, gone))

    def test_order_does_not_count(self):
        rows = PAGE.split("\n")[:-1]
        self.assertEqual(changes(PAGE, "\n".join(rows[::-1]) + "\n"), ([], []))

    def test_rows_that_stand_twice(self):
        self.assertEqual(changes(PAGE + PAGE, PAGE), ([], []))
        self.assertEqual(changes("turn 1\nturn 1\ndoor d web\n", "turn 2\nturn 2\nturn 2\n"),
                         (["door d web", "turn 1"], ["turn 2"]))

    def test_from_and_to_nothing(self):
        self.assertEqual(changes("", "turn 10\nturn 9\n"), ([], ["turn 10", "turn 9"]))
        self.assertEqual(changes("turn 9\nturn 10\n", ""), (["turn 10", "turn 9"], []))

    def test_between_two_turns(self):
        self.wait(1)
        before = show_page(self.house)
        self.house.play([("rise", "mc")])
        self.assertEqual(changes(before, show_page(self.house)), (
            ["machine mc 1 0 fallen", "turn 2"],
            ["copy 1 web front 1 answering", "copy 2 web front 1 answering", "machine mc 1 1 stands", "turn 3"]))

    def test_is_the_askers_own(self):
        read_page(PAGE).clear()
        gone, come = changes(PAGE, "")
        gone.clear()
        come.append("x")
        self.assertEqual(changes(PAGE, "")[1], [])
        self.assertEqual(len(changes(PAGE, "")[0]), 16)


if __name__ == "__main__":
    unittest.main()
