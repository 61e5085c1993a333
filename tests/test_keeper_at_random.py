"""Points [100] to [102], and of [5], [7], [10] and [11] what is told of keepers, over many turns by chance."""

import copy
import unittest

from keeper_by_chance import ChanceKeeper
from keeper_by_words import KeeperByWords, told_by_keeper
from placedworks.journal import keeper_of, show_journal
from placedworks.keeper import Keeper


def driven(seeds, turns):
    """Keepers by chance with their rows: told are the seed, the keeper, the rows and the number of each turn."""
    for seed in seeds:
        case = ChanceKeeper(seed)
        keeper = Keeper(list(case.machines))
        for at in range(turns):
            rows = case.first_deeds() if at == 0 else []
            rows += case.rows_told(keeper.planned(), moved_to(keeper))
            yield (seed, at), case, keeper, rows, case.next_turn()


def moved_to(keeper):
    """The machines of copies whose posts have a leaving one, too."""
    posts = [post for wish in keeper.book().wishes() for post in keeper.posts_of(wish)]
    moving = [copy for copy, leaving in posts if copy and leaving]
    return [row[6] for row in keeper.planned() if row[0] in moving]


def answering(keeper, case, turn):
    """The numbers known to answer at a keeper's last turn."""
    beats = [keeper.kept(name) for name, _ in case.machines]
    return [number for beat in beats if beat and turn - beat[2] <= 3 for number, answers in beat[4] if answers]


def answering_posts(posts, known):
    return len([post for post in posts if post[0] in known or post[1] in known])


class TestKeeperAtRandom(unittest.TestCase):
    def test_as_the_words_tell(self):
        seen = {}
        for place, case, keeper, rows, turn in driven(range(150), 40):
            if place[1] == 0:
                by_words = KeeperByWords(list(case.machines))
            for row in rows:
                keeper.tell(row)
                by_words.tell(copy.deepcopy(row))
            self.assertEqual(keeper.turn(turn), by_words.turn(turn), place)
            self.assertEqual(told_by_keeper(keeper), by_words.told(), place)
            for _, word in keeper.reasons():
                seen[word] = seen.get(word, 0) + 1
            for lease in by_words.leases.values():
                seen["let go"] = seen.get("let go", 0) + lease["let"]
            seen["rules"] = seen.get("rules", 0) + len([by for by, _ in keeper.book().log() if by != "hand"])
        for word in ("ended", "silent", "emptied", "cut", "left", "rolled", "filled", "moved", "let go", "rules"):
            self.assertGreater(seen.get(word, 0), 4, (word, seen))

    def test_a_keeper_made_of_its_journal_goes_on_as_that_one_would(self):
        for place, case, keeper, rows, turn in driven(range(40), 25):
            if place[1] == 0:
                other = Keeper(list(case.machines))
            for at, row in enumerate(rows):
                keeper.tell(row)
                other.tell(row)
                if at == len(rows) // 2:
                    other = keeper_of(list(case.machines), show_journal(other))
                    self.assertEqual(told_by_keeper(other), told_by_keeper(keeper), place)
            self.assertEqual(other.turn(turn), keeper.turn(turn), place)
            self.assertEqual(told_by_keeper(other), told_by_keeper(keeper), place)

    def test_beats_that_come_twice_change_nothing_but_the_journal(self):
        for place, case, keeper, rows, turn in driven(range(40), 25):
            if place[1] == 0:
                other = Keeper(list(case.machines))
            for row in rows:
                keeper.tell(row)
                other.tell(row)
            for row in [row for row in case.old if row[0] == "beat"]:
                other.tell(row)
            self.assertEqual(other.turn(turn), keeper.turn(turn), place)
            seen, expected = told_by_keeper(other), told_by_keeper(keeper)
            seen.pop("journal")
            expected.pop("journal")
            self.assertEqual(seen, expected, place)

    def test_rows_of_each_sort_may_be_woven_otherwise(self):
        for place, case, keeper, rows, turn in driven(range(20), 20):
            if place[1] == 0:
                other = Keeper(list(case.machines))
            for row in rows:
                keeper.tell(row)
            for word in ("asks", "deed", "beat"):
                for row in [row for row in rows if row[0] == word]:
                    other.tell(row)
            self.assertEqual(other.turn(turn), keeper.turn(turn), place)

    def test_berths_and_kinds(self):
        for place, case, keeper, rows, turn in driven(range(60), 40):
            for row in rows:
                keeper.tell(row)
            for name, sheet in keeper.turn(turn)[1]:
                kinds = [row[2] for row in sheet[2]]
                self.assertLessEqual(len(kinds), dict(case.machines)[name], place)
                self.assertEqual(len(kinds), len(set(kinds)), place)

    def test_no_fewer_posts_answer_than_the_gate_tells(self):
        checked = 0
        for place, case, keeper, rows, turn in driven(range(150), 40):
            for row in rows:
                keeper.tell(row)
            before = {wish: keeper.posts_of(wish) for wish in keeper.book().wishes()}
            keeper.turn(turn)
            known = answering(keeper, case, turn)
            taken = [number for number, word in keeper.reasons() if word in ("ended", "silent", "cut")]
            for wish, run in keeper.runs():
                ahead = answering_posts(before.get(wish, []), [number for number in known if number not in taken])
                gate = max(0, min(keeper.book().wish(wish)["keep"], run - 1))
                self.assertGreaterEqual(answering_posts(keeper.posts_of(wish), known), min(gate, ahead), place)
                checked += min(gate, ahead) > 0
        self.assertGreater(checked, 500)

    def test_leases_never_overlap(self):
        for place, case, keeper, rows, turn in driven(range(60), 40):
            if place[1] == 0:
                last = {}
            for row in rows:
                keeper.tell(row)
            sheets = keeper.turn(turn)[1]
            for name, sheet in sheets:
                for store, token, number, until in sheet[3]:
                    self.assertIn(number, [row[0] for row in sheet[2]], place)
                    self.assertLessEqual(until, turn + 6, place)
            for store, token, number, until in keeper.all_leases():
                before = last.get(store, (store, 0, 0, 0))
                self.assertGreaterEqual(token, before[1], place)
                if token == before[1]:
                    self.assertEqual(number, before[2], place)
                    self.assertGreaterEqual(until, before[3], place)
                else:
                    self.assertEqual(until, turn + 6, place)
                last[store] = (store, token, number, until)


if __name__ == "__main__":
    unittest.main()
