"""Points [5] to [11], [103] to [105] and [109] over many turns by chance, but always the same ones."""

import random
import unittest

from house_by_chance import CALM, ChanceHouse, numbers_planned, played
from house_by_words import HouseByWords, told_by_house
from placedworks.chronicle import show_chronicle
from placedworks.drills import drill
from placedworks.errors import BadRow, PlaceError
from placedworks.house import House, heal
from placedworks.journal import show_journal
from placedworks.kinds import LEASE
from placedworks.pages import show_page
from placedworks.sums import runs_of


def writers(house, case, store):
    """The machines and numbers by which a store may be written at this turn."""
    found = [(name, house.machine(name).lease_at(store, house.turn())) for name, _ in case.machines]
    return [(name, lease) for name, lease in found if lease is not None]


class TestByWords(unittest.TestCase):
    def test_as_the_words_tell(self):
        seen = {}
        for place, case, house, rows in played(range(120), 50):
            if place[1] == 0:
                by_words = HouseByWords(list(case.machines))
            rows = rows + [("write", "s", "x"), ("write", "t", "y")] * (place[0] % 2)
            self.assertEqual(house.play(rows), by_words.play(rows), place)
            self.assertEqual(told_by_house(house), by_words.told(), place)
            self.assertEqual(house.played()[-1], rows, place)
            words = [word for _, word in house.keeper().reasons()] + house.words() + ["led"] * len(house.led())
            if place[1] == 49:
                words += [write[4] for write in house.writes()]
                words += ["rule" for by, _ in house.keeper().book().log() if by != "hand"]
            for word in words:
                seen[word] = seen.get(word, 0) + 1
        for word in ("done", "refused", "stale", "sent", "led", "rule", "silent", "rolled", "cut", "left", "moved"):
            self.assertGreater(seen.get(word, 0), 2, (word, seen))


class TestTheWhole(unittest.TestCase):
    def test_berths_and_kinds(self):
        for place, case, house, rows in played(range(80), 50):
            house.play(rows)
            for name, berths in case.machines:
                kinds = [copy[2] for copy in house.machine(name).lying()]
                self.assertLessEqual(len(kinds), berths, place)
                self.assertEqual(len(kinds), len(set(kinds)), place)

    def test_one_copy_alone_may_write_a_store(self):
        wrote = 0
        for place, case, house, rows in played(range(160), 50):
            woven = []
            for row in rows:
                woven += [("write", "s", "x"), ("write", "t", "y"), row]
            woven += [("write", "s", "z"), ("write", "t", "z")]
            answers = house.play(woven)
            by_copy = {"s": set(), "t": set()}
            for row, answer in zip(woven, answers):
                if row[0] == "write" and answer is not None:
                    by_copy[row[1]].add(answer[0])
            for store, numbers in by_copy.items():
                self.assertLessEqual(len(numbers), 1, (place, store))
                self.assertLessEqual(len(writers(house, case, store)), 1, (place, store))
                wrote += len(numbers)
        self.assertGreater(wrote, 500)

    def test_what_was_done_stands_for_ever(self):
        stale = 0
        for place, case, house, rows in played(range(160), 60):
            if place[1] == 0:
                before, words = {"s": [], "t": []}, []
            house.play(rows + [("write", "s", "x"), ("write", "t", "y")])
            for store in before:
                shelved = house.rows_of(store)
                self.assertEqual(shelved[:len(before[store])], before[store], place)
                self.assertEqual([row[0] for row in shelved], sorted([row[0] for row in shelved]), place)
                done = [write for write in house.writes() if write[0] == store and write[4] == "done"]
                self.assertEqual(sorted([write[1:3] for write in done]), sorted([row[1:3] for row in shelved]), place)
                before[store] = shelved
            for old, new in zip(words, house.writes()):
                self.assertEqual(old[:4], new[:4], place)
                self.assertTrue(old[4] in (new[4], "sent"), place)
            words = house.writes()
            stale += len([write for write in words if write[4] == "stale"])
        self.assertGreater(stale, 50)

    def test_names_lead_to_copies_that_answer_of_the_told_edition_if_any(self):
        led, elder = 0, 0
        for place, case, house, rows in played(range(120), 50):
            plans = {door: house.keeper().led(door) for door in ("p", "q", "r")}
            house.play(rows)
            for door in plans:
                # The keeper made its turn behind the leading, but changed no machine.
                reached = {number: told for number, name, _, told in plans[door]
                           if house.machine(name).answers(number) and not house.is_cut(name)}
                for each, _, number in house.led():
                    if each == door:
                        self.assertIn(number, reached, place)
                        self.assertTrue(reached[number] or True not in reached.values(), place)
                        led += 1
                        elder += not reached[number]
        self.assertGreater(led, 1000)
        self.assertGreater(elder, 5)

    def test_messages_that_come_twice_change_nothing(self):
        for place, case, house, rows in played(range(60), 40):
            if place[1] == 0:
                other = House(list(case.machines))
            answers = house.play([("twice", row[1], False) if row[0] == "twice" else row for row in rows])
            more = [("twice", name, True) for name, _ in case.machines if place[1] % 2]
            rows = [("twice", row[1], True) if row[0] == "twice" else row for row in rows]
            self.assertEqual(other.play(more + rows)[len(more):], answers, place)
            seen, expected = told_by_house(other), told_by_house(house)
            for told in (seen, expected):
                told.pop("many")
                told["keeper"].pop("journal")
            self.assertEqual(seen, expected, place)

    def test_a_keeper_made_anew_goes_on_as_that_one_would(self):
        for place, case, house, rows in played(range(60), 40):
            if place[1] == 0:
                other = House(list(case.machines))
            rows = [row for row in rows if row != ("again",)]
            answers = house.play(rows)
            woven = []
            for row in rows:
                woven += [row, ("again",)] if case.chance.random() < 0.3 else [row]
            found = other.play([("again",)] + woven)
            self.assertEqual([answer for row, answer in zip([("again",)] + woven, found) if row != ("again",)], answers)
            self.assertEqual(told_by_house(other), told_by_house(house), place)


    def test_questions_and_refusals_change_nothing(self):
        for place, case, house, rows in played(range(40), 25):
            if place[1] == 0:
                other = House(list(case.machines))
            self.assertEqual(other.play(rows), house.play(rows), place)
            told_by_house(house)
            show_page(house)
            show_chronicle(house)
            show_journal(house.keeper())
            if place[1] % 8 == 7:
                drill(house, [case.rows([1, 2]), []])
            for deeds in ([case.deed() for _ in range(3)], [("empty", case.name())]):
                try:
                    house.keeper().would(deeds)
                except PlaceError:
                    pass
            with self.assertRaises(BadRow):
                house.play([("fall", name) for name, _ in case.machines] + [("down",), ("again",), ("rise", "zz")])
            self.assertEqual(told_by_house(house), told_by_house(other), place)
            self.assertEqual(house.played(), other.played(), place)

    def test_what_is_known_to_answer_answers_in_truth_where_nothing_failed(self):
        checked = 0
        for place, case, house, rows in played(range(80), 50):
            rows = [row for row in rows if row[0] not in ("fall", "cut", "fail", "down")]
            house.play(rows)
            keeper = house.keeper()
            for wish, run in keeper.runs():
                gate = max(0, min(keeper.book().wish(wish)["keep"], run - 1))
                posts = keeper.posts_of(wish)
                known = [post for post in posts if self.answers(post, keeper, lambda name, number: (
                    (number, True) in keeper.kept(name)[4]))]
                truly = [post for post in posts if self.answers(post, keeper, lambda name, number: (
                    house.machine(name).answers(number)))]
                self.assertEqual([post for post in known if post not in truly], [], place)
                checked += gate > 0 and len(known) >= gate
        self.assertGreater(checked, 300)

    def answers(self, post, keeper, asked):
        machines = {row[0]: row[6] for row in keeper.planned()}
        return any([asked(machines[number], number) for number in post if number is not None])


class TestRules(unittest.TestCase):
    """Point [10], of houses in which one rule alone does a deed, at one turn."""

    def rows(self, case, house):
        rows = case.rows(numbers_planned(house))
        return [row for row in rows if row[0] != "ask" and not (row[0] == "deed" and row[1][0] in ("rule", "end"))]

    def told(self, house):
        seen = told_by_house(house)
        seen["log"] = [deed for _, deed in seen["keeper"].pop("log")]
        for each in ("many", "words"):
            seen.pop(each)
        seen["keeper"].pop("journal")
        return seen

    def test_a_rule_does_what_the_deed_does_by_hand(self):
        done = 0
        for seed in range(60):
            case = ChanceHouse(seed, CALM[seed % len(CALM)])
            copies, keep = case.copies()
            first = [row for row in case.first_rows() if row[0] != "deed" or row[1][0] not in ("rule", "door")]
            first += [("deed", ("wish", "a", "x", 3, 1, 1, 1)), ("deed", ("door", "p", "a"))]
            first.append(("deed", ("rule", "more", "p", 20, copies, keep)))
            by_rule, by_hand = House(list(case.machines)), House(list(case.machines))
            for at in range(30):
                rows = first if at == 0 else [("up",)] if at == 12 else self.rows(case, by_rule)
                more = [("ask", "p", "zz", 20)] if at == 12 else []
                same = [("deed", ("copies", "a", copies, keep))] if at == 12 else []
                wish = by_rule.keeper().book().wish("a") if at else {}
                if at == 12 and (wish["copies"], wish["keep"]) == (copies, keep):
                    same = []
                answers = by_rule.play(rows + more)
                self.assertEqual(by_hand.play(rows + same)[:len(rows)], answers[:len(rows)], (seed, at))
                if same:
                    self.assertIn(("more", same[0][1]), by_rule.keeper().book().log())
                    done += 1
                self.assertEqual(self.told(by_rule), self.told(by_hand), (seed, at))
        self.assertGreater(done, 20)


class TestShares(unittest.TestCase):
    """Point [9], of a door at which each group always asks."""

    def test_each_group_has_its_share(self):
        led_at_all = 0
        for seed in range(25):
            chance = random.Random(seed)
            machines = [("ma", 1), ("mb", 1), ("mc", 1)]
            house = House(machines)
            groups = {"day": chance.randrange(1, 10), "night": chance.randrange(1, 10)}
            rows = [("rise", name) for name, _ in machines] + [("deed", ("wish", "web", "front", 3, 1, 0, 2))]
            rows += [("deed", ("group", group, share)) for group, share in groups.items()]
            house.play(rows + [("deed", ("door", "d", "web"))])
            led = []
            for _ in range(60):
                rows = [("ask", "d", group, 40) for group in groups]
                name = chance.choice("abc")
                rows += chance.choice([[], [("fall", "m" + name)], [("rise", "m" + name)], [("cut", "m" + name)],
                                       [("join", "m" + name)], [("fail", chance.randrange(1, 9))],
                                       [("deed", ("edition", "web", 0, chance.randrange(1, 4)))]])
                newer = chance.random() < 0.05 and "noon" not in groups
                house.play(rows + ([("deed", ("group", "noon", 3))] if newer else []))
                led = [] if house.turn() % 12 == 0 else led
                for _, group, _ in house.led():
                    led.append(group)
                    for each, share in groups.items():
                        self.assertGreater((led.count(each) + 1) * sum(groups.values()), share * len(led), seed)
                led_at_all += len(house.led())
                if newer:
                    groups["noon"], led = 3, []
        self.assertGreater(led_at_all, 1500)


class TestHealing(unittest.TestCase):
    def calmed(self, seed, machines, turns):
        """A house behind many happenings, and behind one turn with much to do for the keeper."""
        case = ChanceHouse(seed, CALM[seed % len(CALM)], machines)
        house = House(list(case.machines))
        house.play(case.first_rows())
        for _ in range(turns):
            house.play(case.rows(numbers_planned(house)))
        house.play(case.calming_rows())
        return case, house

    def usable(self, case, house):
        emptied = house.keeper().book().emptied()
        return [(name, berths) for name, berths in case.machines
                if house.machine(name).stands() and name not in emptied]

    def expected(self, case, house):
        book = house.keeper().book()
        asked = [(name, book.wish(name)["kind"], book.wish(name)["copies"]) for name in book.wishes()]
        return runs_of(self.usable(case, house), asked)

    def heals(self, seed, most, machines):
        """Told is how many quiet turns were played until all ran, and whether something ran at all."""
        case, house = self.calmed(seed, machines, 25)
        runs = self.expected(case, house)
        turns = heal(sum([run for _, run in runs]), len(self.usable(case, house)))
        for _ in range(min(turns, most)):
            house.play([])
        self.assertEqual(house.keeper().runs(), runs, seed)
        self.all_runs(case, house, runs, seed)
        lying = [house.machine(name).lying() for name, _ in case.machines]
        self.leads_on(house, seed)
        for _ in range(LEASE + 8):
            house.play([])
            self.assertEqual([house.machine(name).lying() for name, _ in case.machines], lying, seed)
        self.writes_on(case, house, dict(runs), seed)
        return runs

    def all_runs(self, case, house, runs, seed):
        book = house.keeper().book()
        usable = [name for name, _ in self.usable(case, house)]
        for wish, run in runs:
            edition = book.wish(wish)["edition"]
            lying = [copy for name in usable for copy in house.machine(name).lying()]
            running = [copy for copy in lying if copy[1] == wish and copy[3:] == (edition, "answering")]
            self.assertEqual(len(running), run, (seed, wish))
            self.assertEqual(house.keeper().shortage_of(wish) is None, run == book.wish(wish)["copies"], (seed, wish))

    def leads_on(self, house, seed):
        """A turn, at which each door leads as much as it can, or nothing waits any more."""
        house.play([])
        first = house.led()
        house.play([])
        for door, _ in house.keeper().book().doors():
            many = len([row for row in first if row[0] == door])
            hands = sum([row[2] for row in house.keeper().led(door)])
            self.assertLessEqual(many, hands, seed)
            if many < hands:
                self.assertEqual([row for row in house.led() if row[0] == door], [], seed)

    def writes_on(self, case, house, runs, seed):
        by_store = {}
        for _ in range(8):
            house.play([])
            for store, wish in house.keeper().book().stores():
                found = writers(house, case, store)
                self.assertEqual(len(found), 1 if runs[wish] else 0, (seed, store))
                self.assertEqual(by_store.setdefault(store, found), found, (seed, store))
        self.assertEqual([write for write in house.writes() if write[4] == "sent"], [], seed)
        rows = [("write", store, "x") for store, _ in house.keeper().book().stores()]
        expected = [(found[0][1][0], 0) if found else None for found in by_store.values()]
        self.assertEqual(house.play(rows), expected, seed)

    def test_behind_all_quiet_turns(self):
        ran = [self.heals(seed, 10 ** 9, 3) for seed in range(60)]
        self.assertGreater(len([runs for runs in ran if sum([run for _, run in runs]) > 3]), 15)

    def test_much_sooner_in_larger_houses(self):
        # Held is more than is promised, of these houses: few quiet turns suffice, in place of very many.
        ran = [self.heals(seed, 120, 5) for seed in range(100, 220)]
        self.assertGreater(len([runs for runs in ran if sum([run for _, run in runs]) > 5]), 30)


if __name__ == "__main__":
    unittest.main()
