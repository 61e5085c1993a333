"""Points [100] and [101]: the keeper; of [3], [4], [10] and [11] what is told of keepers."""

import copy
import unittest

from keeper_by_words import told_by_keeper
from placedworks import errors
from placedworks.book import Book
from placedworks.keeper import Keeper
from wrong_machines import EIGHT, refused_by

MACHINES = [("ma", 2), ("mb", 2)]
WEB = ("wish", "web", "front", 2, 1, 0, 2)


def told(keeper):
    return copy.deepcopy(told_by_keeper(keeper))


class KeeperCase(unittest.TestCase):
    """A keeper that is driven turn by turn: deeds, and for each machine the copies that answer, or don't."""

    machines = MACHINES

    def setUp(self):
        self.keeper = Keeper(list(self.machines))
        self.now = 0

    def deed(self, *deed):
        self.keeper.tell(("deed", deed))

    def beat(self, machine, *rows, turn=None, life=1, sheet=0):
        self.keeper.tell(("beat", (machine, life, self.now + 1 if turn is None else turn, sheet, list(rows))))

    def turn(self, number=None, **beats):
        """A turn: of each machine named the copies that it tells as answering, negative ones as not."""
        self.now = self.now + 1 if number is None else number
        for machine, numbers in beats.items():
            self.beat(machine, *[(abs(each), each > 0) for each in numbers], turn=self.now)
        return self.keeper.turn(self.now)

    def begin(self, *deeds, **beats):
        """A first turn of these deeds, a second one by which copies 1 and 2 answer."""
        for deed in deeds:
            self.deed(*deed)
        self.turn(ma=[], mb=[])
        return self.turn(**(beats or {"ma": [1], "mb": [2]}))

    def sheets(self, told_turn):
        return dict(told_turn[1])

    def leases(self):
        return self.keeper.all_leases()

    def reasons(self):
        return self.keeper.reasons()


class TestMaking(KeeperCase):
    def test_at_first(self):
        keeper = Keeper([("ma", 1)])
        self.assertTrue(keeper.book() == Book(["ma"]))
        self.assertEqual((keeper.planned(), keeper.runs(), keeper.all_leases(), keeper.journal(), keeper.reasons()),
                         ([], [], [], [], []))
        self.assertEqual((keeper.posts_of("web"), keeper.led("d")), ([], []))
        self.assertIsNone(keeper.shortage_of("web"))
        self.assertIsNone(keeper.kept("ma"))
        self.assertEqual(keeper.would([]), [])
        self.assertEqual(keeper.falls(), (0, None))

    def test_of_eight_machines_and_each_number_of_berths(self):
        self.assertEqual(Keeper(list(EIGHT)).book().machines(), [name for name, _ in EIGHT])
        for berths in range(1, 7):
            keeper = Keeper([("m", berths)])
            keeper.tell(("beat", ("m", 1, 1, 0, [])))
            for kind in "abcdefg":
                keeper.tell(("deed", ("wish", kind, kind, 1, 0, 0, 1)))
            keeper.turn(1)
            self.assertEqual(len(keeper.planned()), berths)

    def test_wrong_machines(self):
        refused_by(self, errors.BadBerths, Keeper)


class TestTelling(KeeperCase):
    def test_rows_wait_for_the_next_turn(self):
        before = told(self.keeper)
        self.deed(*WEB)
        self.beat("ma")
        self.assertIsNone(self.keeper.tell(("asks", "d", 3)))
        after = told(self.keeper)
        self.assertEqual(after.pop("journal"), [("deed", WEB), ("beat", ("ma", 1, 1, 0, [])), ("asks", "d", 3)])
        before.pop("journal")
        self.assertEqual(after, before)
        self.assertEqual(self.turn(), (["done"], [("ma", (1, 1, [(1, "web", "front", 1, 0, 2)], []))]))

    def test_rows_are_no_more_behind_the_turn(self):
        self.deed("group", "day", 1)
        self.assertEqual(self.turn()[0], ["done"])
        self.assertEqual(self.turn()[0], [])
        self.assertEqual(self.keeper.book().groups(), [("day", 1)])

    def test_a_turn_of_nothing(self):
        self.assertEqual(self.turn(), ([], []))
        self.assertEqual(self.keeper.journal(), [("turn", 1)])

    def test_turns_that_skip(self):
        self.deed(*WEB)
        self.assertEqual(self.turn(7, ma=[])[1], [("ma", (1, 7, [(1, "web", "front", 1, 0, 2)], []))])
        self.assertEqual(self.turn(10)[1][0][1][1], 10)
        self.assertEqual(self.turn(11), ([], []))
        self.assertEqual(self.reasons(), [(1, "silent")])

    def test_numbers_of_ten_figures(self):
        self.deed(*WEB)
        self.beat("ma", (9999999998, True), turn=9999999999, life=9999999997, sheet=9999999996)
        self.assertEqual(self.keeper.turn(9999999999)[1],
                         [("ma", (9999999997, 9999999999, [(1, "web", "front", 1, 0, 2)], []))])


class TestBeats(KeeperCase):
    def setUp(self):
        super().setUp()
        self.begin(WEB)

    def test_a_newer_one_is_kept(self):
        self.assertEqual(self.keeper.kept("ma"), ("ma", 1, 2, 0, [(1, True)]))
        self.turn(ma=[-1])
        self.assertEqual(self.keeper.kept("ma"), ("ma", 1, 3, 0, [(1, False)]))
        self.assertEqual(self.keeper.kept("mb"), ("mb", 1, 2, 0, [(2, True)]))

    def test_a_late_one_and_a_second_one_change_nothing(self):
        self.beat("ma", (1, False), turn=1)
        self.beat("ma", (1, False), turn=2)
        self.turn()
        self.assertEqual(self.keeper.kept("ma"), ("ma", 1, 2, 0, [(1, True)]))

    def test_the_newest_of_several_that_wait_is_kept(self):
        for turn, answers in [(4, False), (6, True), (5, False)]:
            self.beat("ma", (1, answers), turn=turn)
        self.turn(6)
        self.assertEqual(self.keeper.kept("ma"), ("ma", 1, 6, 0, [(1, True)]))

    def test_life_does_not_count(self):
        self.beat("ma", life=5, turn=3)
        self.assertEqual(self.sheets(self.turn())["ma"][0], 5)
        self.beat("ma", life=4, turn=3)
        self.assertEqual(self.sheets(self.turn())["ma"][0], 5)
        self.beat("ma", life=4, turn=4)
        self.assertEqual(self.sheets(self.turn())["ma"][0], 4)

    def test_a_beat_is_heard_for_three_turns_more(self):
        self.assertEqual(sorted(self.sheets(self.turn(5))), ["ma", "mb"])
        self.turn(6, mb=[2])
        self.assertEqual(self.reasons(), [(1, "silent")])
        self.assertEqual([row[0] for row in self.keeper.planned()], [2])

    def test_what_silent_machines_told_is_not_known(self):
        self.deed("store", "s", "web")
        self.turn(6, mb=[])
        self.assertEqual(self.leases(), [])

    def test_a_machine_that_is_heard_again(self):
        self.turn(6, mb=[2])
        self.assertEqual(self.sheets(self.turn(ma=[1], mb=[2]))["ma"], (1, 7, [(3, "web", "front", 1, 0, 2)], []))

    def test_heard_ahead_of_the_plan_of_the_same_turn(self):
        keeper = Keeper([("ma", 1)])
        keeper.tell(("deed", WEB))
        keeper.tell(("beat", ("ma", 1, 1, 0, [])))
        keeper.turn(1)
        self.assertEqual(keeper.runs(), [("web", 1)])
        self.assertEqual(keeper.shortage_of("web"), (1, 2, 1))
        self.assertIsNone(keeper.shortage_of("db"))


class TestDeeds(KeeperCase):
    def test_done_and_refused_in_one_turn_in_order(self):
        for deed in [("store", "s", "web"), WEB, ("store", "s", "web"), WEB, ("back", "web"), ("edition", "web", 1, 3),
                     ("back", "web"), ("end", "wish", "web"), ("empty", "mc"), ("empty", "mb")]:
            self.deed(*deed)
        self.assertEqual(self.turn()[0], ["refused", "done", "done", "refused", "refused", "done", "done", "refused",
                                          "refused", "done"])
        self.assertEqual(self.keeper.book().log(), [("hand", deed) for deed in [
            WEB, ("store", "s", "web"), ("edition", "web", 1, 3), ("back", "web"), ("empty", "mb")]])

    def test_the_plan_of_the_same_turn_knows_them(self):
        self.deed(*WEB)
        self.deed("edition", "web", 1, 3)
        self.deed("copies", "web", 1, 0)
        self.deed("empty", "ma")
        self.turn(ma=[], mb=[])
        self.assertEqual(self.keeper.planned(), [(1, "web", "front", 2, 1, 3, "mb")])
        self.deed("back", "web")
        self.turn(ma=[], mb=[])
        self.assertEqual(self.keeper.planned(), [(2, "web", "front", 1, 0, 2, "mb")])

    def test_wishes_go_by_rank(self):
        self.deed(*WEB)
        self.deed("wish", "db", "back", 2, 0, 0, 1)
        self.deed("wish", "top", "tip", 2, 0, 0, 1)
        self.deed("rank", "top", 0)
        self.turn(ma=[], mb=[])
        self.assertEqual(self.keeper.runs(), [("top", 2), ("web", 2), ("db", 0)])
        self.assertEqual(self.keeper.shortage_of("db"), (3, 5, 4))


class TestRules(KeeperCase):
    def setUp(self):
        super().setUp()
        for deed in [WEB, ("door", "d", "web"), ("door", "e", "web")]:
            self.deed(*deed)
        self.turn(ma=[], mb=[])

    def rule(self, name="more", door="d", asks=5, copies=4, keep=2):
        self.deed("rule", name, door, asks, copies, keep)

    def asks(self, many, door="d"):
        self.keeper.tell(("asks", door, many))

    def by_rules(self):
        return [row for row in self.keeper.book().log() if row[0] != "hand"]

    def wished(self):
        wish = self.keeper.book().wish("web")
        return wish["copies"], wish["keep"]

    def test_just_reached(self):
        self.rule()
        self.turn()
        self.asks(5)
        self.assertEqual(self.turn(ma=[], mb=[])[0], [])
        self.assertEqual(self.by_rules(), [("more", ("copies", "web", 4, 2))])
        self.assertEqual(self.keeper.runs(), [("web", 2)])
        self.assertEqual(self.keeper.shortage_of("web"), (1, 3, 2))

    def test_one_less(self):
        self.rule()
        self.turn()
        self.asks(4)
        self.turn()
        self.assertEqual((self.wished(), self.by_rules()), ((2, 1), []))

    def test_those_of_a_turn_count_together(self):
        self.rule()
        self.turn()
        for many in (2, 1, 2):
            self.asks(many)
        self.turn()
        self.assertEqual(self.wished(), (4, 2))

    def test_those_of_turns_ahead_do_not_count(self):
        self.rule()
        self.turn()
        for many in (3, 4):
            self.asks(many)
            if many == 3:
                self.turn()
        self.turn()
        self.assertEqual(self.by_rules(), [])

    def test_those_of_other_doors_do_not_count(self):
        self.rule()
        self.turn()
        self.asks(4)
        self.asks(9, "e")
        self.asks(9, "zz")
        self.turn()
        self.assertEqual(self.by_rules(), [])

    def test_of_one_ask_and_of_twenty(self):
        self.rule("one", "d", 1, 3, 0)
        self.rule("twenty", "e", 20, 1, 0)
        self.turn()
        self.assertEqual(self.by_rules(), [])
        self.asks(1)
        self.asks(19, "e")
        self.turn()
        self.assertEqual(self.by_rules(), [("one", ("copies", "web", 3, 0))])
        self.asks(20, "e")
        self.turn()
        self.assertEqual(self.by_rules()[1:], [("twenty", ("copies", "web", 1, 0))])

    def test_nothing_is_done_where_copies_and_keep_are_so_already(self):
        self.rule(copies=2, keep=1)
        self.turn()
        self.asks(50)
        self.turn()
        self.assertEqual(self.by_rules(), [])

    def test_where_only_one_of_them_is_so(self):
        self.rule("more", "d", 5, 2, 0)
        self.rule("other", "e", 5, 3, 0)
        self.turn()
        self.asks(5)
        self.turn()
        self.asks(5, "e")
        self.turn()
        self.assertEqual(self.by_rules(), [("more", ("copies", "web", 2, 0)), ("other", ("copies", "web", 3, 0))])

    def test_two_rules_of_one_wish_go_in_the_order_told(self):
        self.rule("zoo", "d", 5, 4, 0)
        self.rule("ape", "e", 3, 3, 0)
        self.turn()
        self.asks(5)
        self.asks(3, "e")
        self.turn()
        self.assertEqual(self.by_rules(), [("zoo", ("copies", "web", 4, 0)), ("ape", ("copies", "web", 3, 0))])
        self.assertEqual(self.wished(), (3, 0))

    def test_the_second_one_goes_by_what_the_first_one_did(self):
        self.rule("zoo", "d", 1, 4, 0)
        self.rule("ape", "e", 1, 4, 0)
        self.rule("cat", "e", 1, 2, 1)
        self.turn()
        self.asks(1)
        self.asks(1, "e")
        self.turn()
        self.assertEqual(self.by_rules(), [("zoo", ("copies", "web", 4, 0)), ("cat", ("copies", "web", 2, 1))])

    def test_one_that_is_told_or_ended_in_this_very_turn(self):
        self.asks(5)
        self.rule()
        self.turn()
        self.assertEqual(self.wished(), (4, 2))
        self.deed("copies", "web", 1, 0)
        self.deed("end", "rule", "more")
        self.asks(5)
        self.turn()
        self.assertEqual(self.wished(), (1, 0))

    def test_deeds_by_hand_go_ahead(self):
        self.rule()
        self.turn()
        self.asks(5)
        self.deed("copies", "web", 4, 2)
        self.turn()
        self.assertEqual(self.by_rules(), [])
        self.deed("copies", "web", 1, 0)
        self.asks(5)
        self.assertEqual(self.turn()[0], ["done"])
        self.assertEqual(self.by_rules(), [("more", ("copies", "web", 4, 2))])

    def test_a_rule_does_what_the_same_deed_does_by_hand(self):
        for copies, keep in [(0, 0), (1, 0), (3, 1), (4, 3), (6, 5)]:
            answers = []
            for by_rule in (True, False):
                self.setUp()
                self.rule("more", "d", 5, copies, keep)
                self.deed("store", "s", "web")
                self.turn(ma=[1], mb=[2])
                self.deed("edition", "web", 0, 1)
                self.asks(5 if by_rule else 4)
                if not by_rule:
                    self.deed("copies", "web", copies, keep)
                words, sheets = self.turn(ma=[1], mb=[2])
                later = self.turn(ma=[1], mb=[2])
                seen = told(self.keeper)
                seen.pop("journal")
                log = [deed for _, deed in seen.pop("log")]
                self.assertEqual(len(words), 1 if by_rule else 2)
                answers.append((words[:1], sheets, later, seen, log))
            self.assertEqual(answers[0], answers[1])


class TestPlan(KeeperCase):
    def test_told_things(self):
        self.begin(WEB)
        self.assertEqual(self.keeper.posts_of("web"), [(1, None), (2, None)])
        self.assertEqual(self.keeper.posts_of("db"), [])
        self.assertEqual(self.keeper.planned(),
                         [(1, "web", "front", 1, 0, 2, "ma"), (2, "web", "front", 1, 0, 2, "mb")])
        self.assertEqual(self.keeper.runs(), [("web", 2)])
        self.assertEqual(self.reasons(), [])
        self.assertIsNone(self.keeper.shortage_of("web"))

    def test_rolling_waits_for_answers(self):
        self.begin(WEB)
        self.deed("edition", "web", 0, 3)
        self.turn(ma=[1], mb=[2])
        self.assertEqual(self.reasons(), [(1, "rolled"), (3, "filled")])
        self.turn(ma=[-3], mb=[2])
        self.assertEqual(self.reasons(), [])
        self.turn(ma=[3], mb=[2])
        self.assertEqual(self.reasons(), [(2, "rolled"), (4, "filled")])

    def test_emptied_machines(self):
        self.begin(("wish", "web", "front", 1, 0, 0, 2), ma=[1], mb=[])
        self.deed("empty", "ma")
        self.turn(ma=[1], mb=[])
        self.assertEqual((self.keeper.posts_of("web"), self.reasons()), ([(2, 1)], [(2, "filled")]))
        self.turn(ma=[1], mb=[2])
        self.assertEqual((self.keeper.posts_of("web"), self.reasons()), ([(2, None)], [(1, "left")]))

    def test_fewer_berths_than_wished(self):
        self.begin(WEB, ("wish", "db", "back", 2, 1, 0, 1), ("wish", "aux", "side", 1, 0, 0, 1))
        self.assertEqual(self.keeper.runs(), [("web", 2), ("db", 2), ("aux", 0)])
        self.assertEqual(self.keeper.shortage_of("aux"), (3, 5, 4))


class TestLeasesRenewed(KeeperCase):
    def setUp(self):
        super().setUp()
        self.begin(WEB, ("store", "s", "web"))

    def test_given_to_the_least_that_is_known_to_answer(self):
        self.assertEqual(self.leases(), [("s", 1, 1, 8)])

    def test_given_to_whichever_answers(self):
        for beats, leases in [({"ma": [-1], "mb": [2]}, [("s", 1, 2, 8)]), ({"ma": [-1], "mb": [-2]}, [])]:
            super().setUp()
            self.begin(WEB, ("store", "s", "web"), **beats)
            self.assertEqual(self.leases(), leases)

    def test_renewed(self):
        for turn in range(3, 20):
            self.turn(ma=[1], mb=[2])
            self.assertEqual(self.leases(), [("s", 1, 1, turn + 6)])

    def test_renewed_by_a_beat_that_is_kept_still(self):
        self.turn()
        self.assertEqual(self.leases(), [("s", 1, 1, 9)])

    def test_not_renewed_while_its_copy_is_not_known_to_answer(self):
        for _ in range(5):
            self.turn(ma=[-1], mb=[2])
            self.assertEqual(self.leases(), [("s", 1, 1, 8)])
        self.assertEqual(self.now, 7)

    def test_renewed_at_the_last_turn_below_its_until(self):
        self.turn(7, ma=[1], mb=[2])
        self.assertEqual(self.leases(), [("s", 1, 1, 13)])

    def test_at_its_until_there_is_a_new_one_even_for_the_same_copy(self):
        for turn in range(3, 8):
            self.turn(turn, ma=[-1], mb=[2])
        self.turn(8, ma=[1], mb=[2])
        self.assertEqual(self.leases(), [("s", 2, 1, 14)])

    def test_at_its_until_another_copy_has_it(self):
        for turn in range(3, 8):
            self.turn(turn, ma=[-1], mb=[2])
            self.assertEqual(self.leases(), [("s", 1, 1, 8)])
        self.turn(8, ma=[-1], mb=[2])
        self.assertEqual(self.leases(), [("s", 2, 2, 14)])

    def test_behind_its_until_none_while_none_answers(self):
        for turn in range(3, 12):
            sheets = self.sheets(self.turn(turn, ma=[-1], mb=[-2]))
            self.assertEqual(self.leases(), [("s", 1, 1, 8)])
            # The sheet tells it, though it has run out.
            self.assertEqual((sheets["ma"][3], sheets["mb"][3]), ([("s", 1, 1, 8)], []))
        self.turn(12, ma=[-1], mb=[2])
        self.assertEqual(self.leases(), [("s", 2, 2, 18)])

    def test_sheets_tell_the_leases_of_their_copies(self):
        self.deed("store", "r", "web")
        sheets = self.sheets(self.turn(ma=[1], mb=[2]))
        self.assertEqual(sheets["ma"], (1, 3, [(1, "web", "front", 1, 0, 2)], [("r", 1, 1, 9), ("s", 1, 1, 9)]))
        self.assertEqual(sheets["mb"], (1, 3, [(2, "web", "front", 1, 0, 2)], []))

    def test_each_store_for_itself(self):
        self.deed("wish", "db", "back", 1, 0, 0, 1)
        self.deed("store", "a", "db")
        self.turn(ma=[1], mb=[2])
        self.assertEqual(self.leases(), [("s", 1, 1, 9)])
        self.turn(ma=[1, 3], mb=[2])
        self.assertEqual(self.leases(), [("a", 1, 3, 10), ("s", 1, 1, 10)])


class TestLeasesLetGo(KeeperCase):
    def setUp(self):
        super().setUp()
        self.begin(WEB, ("store", "s", "web"))
        # Copy 1, which has the lease, is rolled away at turn 3.
        self.deed("edition", "web", 0, 3)
        self.turn(ma=[1], mb=[2])
        self.assertEqual(self.reasons(), [(1, "rolled"), (3, "filled")])
        self.assertEqual(self.leases(), [("s", 1, 1, 8)])

    def beats(self, sheet, *rows, life=1):
        self.beat("ma", *rows, sheet=sheet, life=life)
        self.beat("mb", (2, True))

    def test_of_a_copy_that_is_gone_no_sheet_tells_it(self):
        self.assertEqual([sheet[3] for _, sheet in self.turn(ma=[3], mb=[2])[1]], [[], []])
        self.assertEqual(self.leases(), [("s", 1, 1, 8)])

    def test_not_before_its_machine_has_taken_the_sheet_of_that_turn(self):
        self.beats(2, (1, True))
        self.turn()
        self.assertEqual(self.leases(), [("s", 1, 1, 8)])

    def test_once_its_machine_has_taken_that_sheet(self):
        self.beats(3, (3, False))
        self.turn()
        self.assertEqual(self.leases(), [("s", 2, 2, 10)])

    def test_or_a_later_one_in_whatever_life(self):
        self.beats(5, (3, False), life=4)
        self.turn(6)
        self.assertEqual(self.leases(), [("s", 2, 2, 12)])

    def test_a_beat_that_comes_late_changes_nothing(self):
        self.beat("ma", (1, True), sheet=9, turn=2)
        self.turn(ma=[1], mb=[2])
        self.assertEqual(self.leases(), [("s", 1, 1, 8)])

    def test_let_go_where_none_answers(self):
        self.beat("ma", (3, False), sheet=3)
        self.beat("mb", (2, False))
        self.turn()
        self.assertEqual(self.leases(), [])
        self.turn(ma=[3], mb=[-2])
        self.assertEqual(self.leases(), [("s", 2, 3, 11)])

    def test_told_edition_ahead_of_others(self):
        self.begin_with_three()
        self.deed("store", "s", "web")
        self.turn(ma=[4], mb=[2], mc=[3])
        # Copy 2 is rolled, 3 is of the elder edition and still answers, 4 is of the told one.
        self.assertEqual(self.keeper.led("d"), [(3, "mc", 2, False), (4, "ma", 3, True), (5, "mb", 3, True)])
        self.assertEqual(self.leases(), [("s", 1, 4, 10)])

    def test_others_where_none_of_the_told_edition_answers(self):
        self.begin_with_three()
        self.deed("store", "s", "web")
        self.turn(ma=[-4], mb=[2], mc=[3])
        self.assertEqual(self.leases(), [("s", 1, 2, 10)])

    def begin_with_three(self):
        self.keeper = Keeper([("ma", 1), ("mb", 1), ("mc", 1)])
        self.now = 0
        for deed in [("wish", "web", "front", 3, 2, 0, 2), ("door", "d", "web")]:
            self.deed(*deed)
        self.turn(ma=[], mb=[], mc=[])
        self.turn(ma=[1], mb=[2], mc=[3])
        self.deed("edition", "web", 0, 3)
        self.turn(ma=[1], mb=[2], mc=[3])
        self.assertEqual(self.reasons(), [(1, "rolled"), (4, "filled")])


class TestLeasesOfSilentMachines(KeeperCase):
    def setUp(self):
        super().setUp()
        self.begin(WEB, ("store", "s", "web"))

    def test_runs_out_where_its_machine_is_not_heard(self):
        for turn in range(3, 6):
            self.turn(turn, mb=[2])
            self.assertEqual(self.leases(), [("s", 1, 1, turn + 6)])
        for turn in range(6, 11):
            self.turn(turn, mb=[2])
            self.assertEqual(self.leases(), [("s", 1, 1, 11)])
        self.turn(11, mb=[2])
        self.assertEqual(self.leases(), [("s", 2, 2, 17)])

    def test_let_go_once_the_machine_is_heard_again_with_a_later_sheet(self):
        self.turn(6, mb=[2])
        self.assertEqual((self.reasons(), self.leases()), ([(1, "silent")], [("s", 1, 1, 8)]))
        self.turn(7, ma=[1], mb=[2])
        self.assertEqual(self.leases(), [("s", 1, 1, 8)])
        self.beat("ma", sheet=6)
        self.beat("mb", (2, True))
        self.turn()
        self.assertEqual(self.leases(), [("s", 2, 2, 14)])

    def test_a_new_life_tells_no_sheet_at_first(self):
        self.turn(6, mb=[2])
        self.beat("ma", life=2)
        self.beat("mb", (2, True))
        self.turn(7)
        self.assertEqual(self.leases(), [("s", 1, 1, 8)])
        self.turn(8, mb=[2])
        self.assertEqual(self.leases(), [("s", 2, 2, 14)])

    def test_a_fallen_machine_that_rose_unheard_has_the_same_copy_and_lease(self):
        self.beat("ma", life=2)
        sheets = self.sheets(self.turn(3, mb=[2]))
        self.assertEqual(sheets["ma"], (2, 3, [(1, "web", "front", 1, 0, 2)], [("s", 1, 1, 8)]))
        self.turn(4, ma=[1], mb=[2])
        self.assertEqual(self.leases(), [("s", 1, 1, 10)])


class TestLeasesOfLeavingCopies(KeeperCase):
    def setUp(self):
        super().setUp()
        self.begin(("wish", "web", "front", 1, 0, 0, 2), ("store", "s", "web"), ma=[1], mb=[])
        self.deed("empty", "ma")
        self.turn(ma=[1], mb=[])
        self.assertEqual(self.keeper.posts_of("web"), [(2, 1)])

    def test_not_renewed_and_not_let_go(self):
        self.assertEqual(self.leases(), [("s", 1, 1, 8)])
        self.turn(ma=[1], mb=[-2])
        self.assertEqual(self.leases(), [("s", 1, 1, 8)])

    def test_not_given_to_a_leaving_one(self):
        for turn in range(4, 10):
            self.turn(turn, ma=[1], mb=[-2])
            self.assertEqual(self.leases(), [("s", 1, 1, 8)])

    def test_let_go_when_it_is_gone_and_that_is_known(self):
        self.turn(ma=[1], mb=[2])
        self.assertEqual(self.reasons(), [(1, "left")])
        self.assertEqual(self.leases(), [("s", 1, 1, 8)])
        self.beat("ma", sheet=4)
        self.beat("mb", (2, True))
        self.turn()
        self.assertEqual(self.leases(), [("s", 2, 2, 11)])


class TestLeasesOfEndedStores(KeeperCase):
    def setUp(self):
        super().setUp()
        self.begin(WEB, ("store", "s", "web"), ("wish", "db", "back", 1, 0, 0, 1))
        self.deed("end", "store", "s")

    def test_not_renewed_and_told_still(self):
        for turn in range(3, 12):
            sheets = self.sheets(self.turn(turn, ma=[1], mb=[2]))
            self.assertEqual(self.leases(), [("s", 1, 1, 8)])
            self.assertEqual(sheets["ma"][3], [("s", 1, 1, 8)])

    def test_told_again_while_it_runs(self):
        self.turn(3, ma=[1], mb=[2])
        self.deed("store", "s", "web")
        self.turn(4, ma=[1], mb=[2])
        self.assertEqual(self.leases(), [("s", 1, 1, 10)])

    def test_ended_and_told_again_in_one_turn(self):
        self.deed("store", "s", "web")
        self.turn(3, ma=[1], mb=[2])
        self.assertEqual(self.leases(), [("s", 1, 1, 9)])

    def test_told_again_once_it_has_run_out(self):
        self.turn(8, ma=[1], mb=[2])
        self.deed("store", "s", "web")
        self.turn(9, ma=[1], mb=[2])
        self.assertEqual(self.leases(), [("s", 2, 1, 15)])

    def test_told_again_of_another_wish(self):
        self.deed("store", "s", "db")
        for turn in range(3, 8):
            self.turn(turn, ma=[1, 3], mb=[2])
            self.assertEqual(self.leases(), [("s", 1, 1, 8)])
        self.turn(8, ma=[1, 3], mb=[2])
        self.assertEqual(self.leases(), [("s", 2, 3, 14)])

    def test_let_go_where_its_copy_is_gone(self):
        self.deed("edition", "web", 0, 2)
        self.turn(3, ma=[1], mb=[2])
        self.assertEqual((self.reasons(), self.leases()), ([(1, "rolled"), (4, "filled")], [("s", 1, 1, 8)]))
        self.beat("ma", sheet=3)
        self.turn()
        self.assertEqual(self.leases(), [])
        self.deed("store", "s", "web")
        self.turn(ma=[], mb=[2])
        self.assertEqual(self.leases(), [("s", 2, 2, 11)])

    def test_of_an_ended_wish(self):
        self.deed("end", "wish", "web")
        self.turn(3, ma=[1], mb=[2])
        self.assertEqual((self.reasons(), self.leases()), ([(1, "ended"), (2, "ended")], [("s", 1, 1, 8)]))
        self.beat("ma", sheet=3)
        self.turn()
        self.assertEqual(self.leases(), [])


class TestSheets(KeeperCase):
    def test_of_each_heard_machine_by_name(self):
        self.deed(*WEB)
        told_turn = self.turn(mb=[], ma=[])
        self.assertEqual(told_turn, (["done"], [("ma", (1, 1, [(1, "web", "front", 1, 0, 2)], [])),
                                                ("mb", (1, 1, [(2, "web", "front", 1, 0, 2)], []))]))

    def test_none_of_a_silent_one(self):
        self.deed(*WEB)
        self.turn(mb=[])
        self.assertEqual([name for name, _ in self.turn(4)[1]], ["mb"])
        self.assertEqual(self.turn(5)[1], [])

    def test_an_emptied_machine_has_one_too(self):
        self.deed("empty", "ma")
        self.assertEqual(self.turn(ma=[], mb=[])[1], [("ma", (1, 1, [], [])), ("mb", (1, 1, [], []))])

    def test_rows_by_rising_number(self):
        self.deed("wish", "web", "front", 1, 0, 1, 2)
        self.deed("wish", "db", "back", 2, 0, 2, 1)
        sheets = self.sheets(self.turn(ma=[], mb=[]))
        self.assertEqual(sheets["ma"][2], [(1, "web", "front", 1, 1, 2), (3, "db", "back", 1, 2, 1)])
        self.assertEqual(sheets["mb"][2], [(2, "db", "back", 1, 2, 1)])


class TestLed(KeeperCase):
    def test_planned_copies_of_the_doors_wish(self):
        self.begin(WEB, ("wish", "db", "back", 1, 0, 0, 1), ("door", "d", "web"), ("door", "e", "db"))
        self.assertEqual(self.keeper.led("d"), [(1, "ma", 2, True), (2, "mb", 2, True)])
        self.assertEqual(self.keeper.led("e"), [(3, "ma", 1, True)])
        self.assertEqual(self.keeper.led("f"), [])
        self.assertEqual(self.keeper.led("web"), [])

    def test_of_other_editions_too(self):
        self.begin(WEB, ("door", "d", "web"))
        self.deed("edition", "web", 0, 3)
        self.turn(ma=[1], mb=[2])
        self.assertEqual(self.keeper.led("d"), [(2, "mb", 2, False), (3, "ma", 3, True)])
        self.deed("back", "web")
        self.turn(ma=[3], mb=[2])
        self.assertEqual(self.keeper.led("d"), [(2, "mb", 2, True), (4, "ma", 2, True)])

    def test_leaving_ones_too(self):
        self.begin(("wish", "web", "front", 1, 0, 0, 2), ("door", "d", "web"), ma=[1], mb=[])
        self.deed("empty", "ma")
        self.turn(ma=[1], mb=[])
        self.assertEqual(self.keeper.led("d"), [(1, "ma", 2, True), (2, "mb", 2, True)])

    def test_none_of_a_door_that_is_ended(self):
        self.begin(WEB, ("door", "d", "web"))
        self.deed("end", "door", "d")
        self.turn()
        self.assertEqual(self.keeper.led("d"), [])


class TestWould(KeeperCase):
    def setUp(self):
        super().setUp()
        self.begin(WEB, ("wish", "db", "back", 2, 1, 0, 1))

    def would(self, *deeds):
        before = told(self.keeper)
        found = self.keeper.would(list(deeds))
        self.assertEqual(told(self.keeper), before)
        return found

    def test_of_no_deeds(self):
        self.assertEqual(self.would(), [("web", 2), ("db", 2)])

    def test_of_deeds_one_behind_another(self):
        self.assertEqual(self.would(("wish", "aux", "side", 2, 0, 0, 1), ("copies", "web", 1, 0), ("rank", "aux", 0)),
                         [("aux", 2), ("web", 1), ("db", 1)])
        self.assertEqual(self.would(("end", "wish", "web")), [("db", 2)])
        self.assertEqual(self.would(("copies", "web", 6, 0)), [("web", 2), ("db", 2)])

    def test_of_deeds_that_empty_and_fill(self):
        self.assertEqual(self.would(("empty", "ma")), [("web", 1), ("db", 1)])
        self.assertEqual(self.would(("empty", "ma"), ("empty", "mb")), [("web", 0), ("db", 0)])
        self.assertEqual(self.would(("empty", "ma"), ("fill", "ma")), [("web", 2), ("db", 2)])
        self.deed("empty", "ma")
        self.turn(ma=[1], mb=[2])
        self.assertEqual(self.would(), [("web", 1), ("db", 1)])
        self.assertEqual(self.would(("fill", "ma")), [("web", 2), ("db", 2)])
        self.assertEqual(self.would(("fill", "ma"), ("empty", "mb")), [("web", 1), ("db", 1)])

    def test_machines_that_were_not_heard_do_not_count(self):
        self.turn(6, mb=[2])
        self.assertEqual(self.would(), [("web", 1), ("db", 1)])
        self.assertEqual(self.would(("empty", "ma"), ("fill", "ma")), [("web", 1), ("db", 1)])
        # A beat that waits is not heard yet.
        self.beat("ma")
        self.assertEqual(self.would(), [("web", 1), ("db", 1)])

    def test_deeds_that_wait_do_not_count(self):
        self.deed("end", "wish", "db")
        self.assertEqual(self.would(), [("web", 2), ("db", 2)])

    def test_refused_as_the_first_one_that_is_refused(self):
        wrong = [
            ([("copies", "x", 1, 0), WEB], errors.Unknown, "name", "x"),
            ([("empty", "ma"), WEB], errors.Known, "name", "web"),
            ([("back", "web"), ("back", "x")], errors.NoBack, None, None),
            ([("store", "s", "web"), ("end", "wish", "web")], errors.Used, "name", "s"),
            ([("group", each, 1) for each in "abcde"], errors.TooMany, "most", 4),
            (["copies web 1 0"], errors.NoDeed, None, None),
            ([("fill", "ma"), ("copies", "web", 2, 2)], errors.NoDeed, None, None),
        ]
        for deeds, kind, field, value in wrong:
            before = told(self.keeper)
            with self.assertRaises(errors.PlaceError) as caught:
                self.keeper.would(deeds)
            self.assertIs(caught.exception.__class__, kind)
            if field:
                self.assertEqual(getattr(caught.exception, field), value)
            self.assertEqual(told(self.keeper), before)

    def test_ahead_of_any_turn(self):
        self.assertEqual(Keeper(MACHINES).would([WEB]), [("web", 0)])


class TestFalls(KeeperCase):
    machines = [("ma", 2), ("mb", 2), ("mc", 1)]

    def test_how_many_may_fall(self):
        self.deed("wish", "web", "front", 1, 0, 0, 1)
        self.turn(ma=[], mb=[], mc=[])
        self.assertEqual(self.keeper.falls(), (2, (1, 1, 0)))
        self.deed("wish", "db", "front", 1, 0, 0, 1)
        self.assertEqual(self.keeper.falls(), (2, (1, 1, 0)))
        self.turn()
        self.assertEqual(self.keeper.falls(), (1, (1, 2, 1)))
        self.deed("copies", "db", 2, 0)
        self.turn()
        self.assertEqual(self.keeper.falls(), (0, (1, 3, 2)))

    def test_emptied_and_silent_machines_do_not_count(self):
        self.deed("wish", "web", "front", 2, 0, 0, 1)
        self.turn(ma=[], mb=[], mc=[])
        self.assertEqual(self.keeper.falls(), (1, (1, 2, 1)))
        self.deed("empty", "mb")
        self.turn(ma=[], mb=[], mc=[])
        self.assertEqual(self.keeper.falls(), (0, (1, 2, 1)))
        self.turn(6, mc=[])
        self.assertIsNone(self.keeper.falls())

    def test_none_where_the_wishes_do_not_fit(self):
        self.deed("wish", "web", "front", 4, 0, 0, 1)
        self.turn(ma=[], mb=[], mc=[])
        self.assertIsNone(self.keeper.falls())

    def test_all_may_fall_where_nothing_is_wished(self):
        self.turn(ma=[], mb=[], mc=[])
        self.assertEqual(self.keeper.falls(), (3, None))


class TestWhatIsTold(KeeperCase):
    def setUp(self):
        super().setUp()
        self.begin(WEB, ("store", "s", "web"), ("door", "d", "web"), ("group", "day", 2))

    def test_the_book_is_a_copy(self):
        before = told(self.keeper)
        self.keeper.book().do(("end", "store", "s"))
        self.assertEqual(told(self.keeper), before)
        book = self.keeper.book()
        self.deed("end", "store", "s")
        self.turn()
        self.assertEqual(book.stores(), [("s", "web")])

    def test_is_the_askers_own(self):
        before = told(self.keeper)
        for ask in (self.keeper.planned, self.keeper.runs, self.keeper.all_leases, self.keeper.journal,
                    self.keeper.reasons, lambda: self.keeper.posts_of("web"), lambda: self.keeper.led("d"),
                    lambda: self.keeper.would([]), lambda: self.keeper.posts_of("x"), lambda: self.keeper.led("x")):
            ask().append("x")
            ask().clear()
        self.keeper.kept("ma")[4].clear()
        for row in self.keeper.journal():
            if row[0] == "beat":
                row[1][4].append((9, True))
        self.assertEqual(told(self.keeper), before)

    def test_sheets_are_the_askers_own(self):
        words, sheets = self.turn(ma=[1], mb=[2])
        before = told(self.keeper)
        words.append("x")
        for _, sheet in sheets:
            sheet[2].clear()
            sheet[3].clear()
        sheets.clear()
        self.assertEqual(told(self.keeper), before)
        self.assertEqual(self.sheets(self.turn(ma=[1], mb=[2]))["ma"],
                         (1, 4, [(1, "web", "front", 1, 0, 2)], [("s", 1, 1, 10)]))

    def test_what_was_handed_in_stays_and_may_be_changed_behind(self):
        rows = [(1, True)]
        beat = ("ma", 1, 3, 2, rows)
        self.keeper.tell(("beat", beat))
        self.assertEqual(beat, ("ma", 1, 3, 2, [(1, True)]))
        rows[0] = (1, False)
        self.turn(mb=[2])
        self.assertEqual(self.keeper.kept("ma"), ("ma", 1, 3, 2, [(1, True)]))
        self.assertEqual(self.leases(), [("s", 1, 1, 9)])
        before = told(self.keeper)
        rows.clear()
        self.assertEqual(told(self.keeper), before)

    def test_machines_and_deeds_may_be_changed_behind(self):
        machines, deeds = list(MACHINES), [("empty", "ma")]
        keeper = Keeper(machines)
        machines.pop()
        machines[0] = ("ma", 6)
        keeper.tell(("beat", ("mb", 1, 1, 0, [])))
        keeper.tell(("deed", WEB))
        self.assertEqual(keeper.turn(1)[1], [("mb", (1, 1, [(1, "web", "front", 1, 0, 2)], []))])
        self.assertEqual(keeper.falls(), None)
        self.keeper.would(deeds)
        self.assertEqual(deeds, [("empty", "ma")])

    def test_questions_change_nothing(self):
        self.assertEqual(told(self.keeper), told(self.keeper))

    def test_two_know_nothing_of_each_other(self):
        other = Keeper(MACHINES)
        before = told(other)
        self.turn(ma=[1], mb=[2])
        self.assertEqual(told(other), before)
        self.assertEqual(other.turn(1), ([], []))


if __name__ == "__main__":
    unittest.main()
