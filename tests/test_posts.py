"""Points [70] to [75]: posts, step by step; of [3] what is told of them."""

import copy
import unittest

from placedworks.posts import Posts


def wish(name="web", kind="front", copies=1, keep=0, edition=1, start=0, hands=1):
    return (name, kind, copies, keep, edition, start, hands)


def machines(emptied=(), **berths):
    """Machines as rows, by names; m=1 is one with a berth."""
    return [(name, berths[name], name in emptied) for name in sorted(berths)]


def told(posts):
    """All that posts tell, so that nothing that they do later can change it."""
    return copy.deepcopy((
        [posts.posts_of(name) for name in ("web", "db", "a", "b", "c")], [posts.copy_of(at) for at in range(20)],
        posts.planned(), [posts.planned_on(name) for name in ("ma", "mb", "mc", "md")], posts.coming(), posts.runs(),
        posts.reasons(), [posts.shortage_of(name) for name in ("web", "db", "a", "b", "c")],
    ))


class PostsCase(unittest.TestCase):
    def setUp(self):
        self.posts = Posts()

    def turn(self, wishes, heard, answering=(), gone=()):
        """A turn by which just these are gone."""
        self.assertEqual(self.posts.turn(wishes, heard, list(answering)), list(gone))

    def are(self, *posts, wish="web"):
        self.assertEqual(self.posts.posts_of(wish), list(posts))

    def reasons(self, **words):
        """The reasons are just these words, with their numbers."""
        expected = [(number, word) for word, numbers in words.items() for number in numbers]
        self.assertEqual(self.posts.reasons(), sorted(expected))

    def lie(self, **places):
        """These numbers are planned on these machines, no others."""
        found = {}
        for row in self.posts.planned():
            found.setdefault(row[6], []).append(row[0])
        self.assertEqual(found, places)


class TestAtFirst(PostsCase):
    def test_nothing_is_told(self):
        self.assertEqual(self.posts.posts_of("web"), [])
        self.assertIsNone(self.posts.copy_of(1))
        self.assertEqual(self.posts.planned(), [])
        self.assertEqual(self.posts.planned_on("ma"), [])
        self.assertEqual(self.posts.coming(), 1)
        self.assertEqual(self.posts.runs(), [])
        self.assertEqual(self.posts.reasons(), [])
        self.assertIsNone(self.posts.shortage_of("web"))

    def test_a_turn_of_nothing(self):
        self.turn([], [])
        self.assertEqual(self.posts.runs(), [])
        self.assertEqual(self.posts.reasons(), [])
        self.assertEqual(self.posts.coming(), 1)

    def test_a_turn_without_machines(self):
        self.turn([wish(copies=2)], [])
        self.assertEqual(self.posts.runs(), [("web", 0)])
        self.assertEqual(self.posts.shortage_of("web"), (1, 1, 0))
        self.are()

    def test_a_turn_without_wishes(self):
        self.turn([], machines(ma=3))
        self.assertEqual(self.posts.planned(), [])


class TestFilling(PostsCase):
    """Step 6, and [70]."""

    def test_copies_are_put(self):
        self.turn([wish(copies=2, edition=4, start=2, hands=3)], machines(ma=2, mb=1))
        self.are((1, None), (2, None))
        first = (1, "web", "front", 4, 2, 3, "ma")
        second = (2, "web", "front", 4, 2, 3, "mb")
        self.assertEqual(self.posts.planned(), [first, second])
        self.assertEqual(self.posts.copy_of(1), first)
        self.assertEqual(self.posts.copy_of(2), second)
        self.assertIsNone(self.posts.copy_of(3))
        self.assertEqual(self.posts.planned_on("ma"), [first])
        self.assertEqual(self.posts.planned_on("mb"), [second])
        self.assertEqual(self.posts.planned_on("mc"), [])
        self.assertEqual(self.posts.coming(), 3)
        self.assertEqual(self.posts.runs(), [("web", 2)])
        self.assertIsNone(self.posts.shortage_of("web"))
        self.reasons(filled=[1, 2])

    def test_on_the_one_with_the_most_free_berths(self):
        self.turn([wish(copies=3), wish("db", "back", 2)], machines(ma=1, mb=3, mc=3))
        self.lie(mb=[1, 4], mc=[2, 5], ma=[3])

    def test_free_berths_not_berths(self):
        self.turn([wish()], machines(ma=3))
        self.turn([wish(), wish("db", "back", 1), wish("c", "cache", 1)], machines(ma=3, mb=2))
        self.lie(ma=[1, 2], mb=[3])

    def test_by_rank(self):
        self.turn([wish("db", "back"), wish("web")], machines(ma=1, mb=1, mc=1))
        self.lie(ma=[1], mb=[2])
        self.are((1, None), wish="db")
        self.are((2, None), wish="web")

    def test_two_wishes_of_one_kind(self):
        self.turn([wish("a", "x", 1), wish("b", "x", 2)], machines(ma=6, mb=2))
        self.assertEqual(self.posts.runs(), [("a", 1), ("b", 1)])
        self.lie(ma=[1], mb=[2])
        self.assertEqual(self.posts.shortage_of("b"), (1, 3, 2))

    def test_not_on_emptied_machines(self):
        self.turn([wish(copies=2)], machines(ma=6, mb=1, emptied=["ma"]))
        self.lie(mb=[1])
        self.assertEqual(self.posts.runs(), [("web", 1)])

    def test_nothing_more_where_nothing_is_new(self):
        self.turn([wish(copies=2)], machines(ma=2, mb=1))
        before = self.posts.planned()
        self.turn([wish(copies=2)], machines(ma=2, mb=1), [1, 2])
        self.assertEqual(self.posts.planned(), before)
        self.reasons()

    def test_a_wish_without_copies(self):
        self.turn([wish(copies=0)], machines(ma=2))
        self.are()
        self.assertEqual(self.posts.runs(), [("web", 0)])
        self.assertIsNone(self.posts.shortage_of("web"))


class TestEndedAndSilent(PostsCase):
    """Step 1."""

    def test_a_wish_that_is_no_more(self):
        self.turn([wish(copies=2), wish("db", "back")], machines(ma=2, mb=2))
        self.turn([wish("db", "back")], machines(ma=2, mb=2), [1, 2, 3], gone=[1, 2])
        self.are()
        self.are((3, None), wish="db")
        self.assertEqual(self.posts.runs(), [("db", 1)])
        self.assertIsNone(self.posts.copy_of(1))
        self.reasons(ended=[1, 2])

    def test_its_numbers_are_not_used_again(self):
        self.turn([wish()], machines(ma=1))
        self.turn([], machines(ma=1), gone=[1])
        self.turn([wish()], machines(ma=1))
        self.are((2, None))
        self.assertEqual(self.posts.coming(), 3)

    def test_a_leaving_one_of_a_wish_that_is_no_more(self):
        self.turn([wish()], machines(ma=1, mb=1))
        self.turn([wish()], machines(ma=1, mb=1, emptied=["ma"]), [1])
        self.are((2, 1))
        self.turn([], machines(ma=1, mb=1), [1, 2], gone=[1, 2])
        self.reasons(ended=[1, 2])

    def test_another_kind(self):
        self.turn([wish(copies=2)], machines(ma=2, mb=2))
        self.turn([wish(kind="back", copies=2)], machines(ma=2, mb=2), [1, 2], gone=[1, 2])
        self.are((3, None), (4, None))
        self.assertEqual(self.posts.copy_of(3)[2], "back")
        self.reasons(ended=[1, 2], filled=[3, 4])

    def test_a_machine_that_is_not_heard(self):
        self.turn([wish(copies=2)], machines(ma=2, mb=2, mc=1))
        self.lie(ma=[1], mb=[2])
        self.turn([wish(copies=2)], machines(ma=2, mc=1), [1, 2], gone=[2])
        self.are((1, None), (3, None))
        self.lie(ma=[1], mc=[3])
        self.reasons(silent=[2], filled=[3])

    def test_the_post_stays_in_its_place(self):
        self.turn([wish(copies=2)], machines(ma=2, mb=2, mc=1))
        self.turn([wish(copies=2)], machines(mb=2, mc=1), [1, 2], gone=[1])
        self.are((3, None), (2, None))

    def test_ended_goes_ahead_of_silent(self):
        self.turn([wish(), wish("db", "back")], machines(ma=1, mb=1))
        self.turn([wish(kind="other")], [], gone=[1, 2])
        self.reasons(ended=[1, 2])

    def test_a_leaving_one_that_is_not_heard(self):
        self.turn([wish()], machines(ma=1, mb=1))
        self.turn([wish()], machines(ma=1, mb=1, emptied=["ma"]), [1])
        self.turn([wish()], machines(mb=1), [1], gone=[1])
        self.are((2, None))
        self.reasons(silent=[1])

    def test_a_copy_that_is_not_heard_with_a_leaving_one(self):
        self.turn([wish()], machines(ma=1, mb=1, mc=1))
        self.turn([wish()], machines(ma=1, mb=1, mc=1, emptied=["ma"]), [1])
        self.are((2, 1))
        self.turn([wish()], machines(ma=1, mc=1, emptied=["ma"]), [1], gone=[2])
        self.are((3, 1))
        self.lie(ma=[1], mc=[3])
        self.reasons(silent=[2], filled=[3])

    def test_an_emptied_machine_that_is_not_heard(self):
        self.turn([wish()], machines(ma=1, mb=1))
        self.turn([wish()], machines(mb=1), [1], gone=[1])
        self.are((2, None))


class TestEmptied(PostsCase):
    """Step 2."""

    def setUp(self):
        super().setUp()
        self.turn([wish()], machines(ma=1, mb=1))

    def empty(self, *names, answering=(), gone=(), mc=None):
        berths = {"ma": 1, "mb": 1}
        if mc is not None:
            berths["mc"] = mc
        self.turn([wish()], machines(emptied=names, **berths), answering, gone)

    def test_a_copy_becomes_the_leaving_one(self):
        self.empty("ma", answering=[1])
        self.are((2, 1))
        self.lie(ma=[1], mb=[2])
        self.reasons(filled=[2])

    def test_one_that_is_not_known_to_answer(self):
        self.empty("ma", gone=[1])
        self.are((2, None))
        self.reasons(left=[1], filled=[2])

    def test_filled_again_ahead_of_the_new_one(self):
        self.empty("ma", answering=[1])
        self.empty(answering=[1])
        self.are((2, 1))
        self.empty(answering=[1, 2], gone=[1])
        self.are((2, None))

    def test_filled_again_without_a_copy(self):
        self.empty("ma", answering=[1])
        self.turn([wish()], machines(ma=1), [1], gone=[2])
        self.are((1, None))
        self.reasons(silent=[2])

    def two_in_one_post(self, answering, emptied=("ma", "mb")):
        self.empty("ma", answering=[1])
        self.are((2, 1))
        return self.posts.turn([wish()], machines(ma=1, mb=1, mc=1, emptied=emptied), answering)

    def test_two_of_which_the_copy_answers(self):
        self.assertEqual(self.two_in_one_post([2]), [1])
        self.are((3, 2))
        self.lie(mb=[2], mc=[3])
        self.reasons(emptied=[1], filled=[3])

    def test_two_of_which_the_leaving_one_answers(self):
        self.assertEqual(self.two_in_one_post([1]), [2])
        self.are((3, 1))
        self.lie(ma=[1], mc=[3])
        self.reasons(emptied=[2], filled=[3])

    def test_two_that_answer(self):
        self.assertEqual(self.two_in_one_post([1, 2]), [1])
        self.are((3, 2))
        self.reasons(emptied=[1], filled=[3])

    def test_two_that_do_not_answer(self):
        self.assertEqual(self.two_in_one_post([]), [1, 2])
        self.are((3, None))
        self.reasons(emptied=[1], left=[2], filled=[3])

    def test_two_of_which_the_leaving_one_is_on_a_usable_machine(self):
        self.assertEqual(self.two_in_one_post([1], emptied=["mb"]), [2])
        self.are((1, None))
        self.reasons(emptied=[2])

    def test_two_of_which_the_copy_stays_as_the_leaving_one(self):
        self.assertEqual(self.two_in_one_post([2], emptied=["mb"]), [1])
        self.are((3, 2))
        self.lie(mb=[2], ma=[3])
        self.reasons(emptied=[1], filled=[3])

    def test_none_is_usable(self):
        self.empty("ma", "mb", answering=[1], gone=[1])
        self.are()
        self.assertEqual(self.posts.runs(), [("web", 0)])
        self.reasons(cut=[1])

    def test_the_greater_number_where_it_leaves(self):
        self.turn([wish("a", "y")], machines(ma=1), gone=[1])
        rows = [wish("a", "y"), wish("b", "x", 2)]
        self.turn(rows, machines(ma=1, mb=2))
        self.are((4, 2), wish="a")
        self.turn(rows, machines(ma=1, mb=2, mc=2, emptied=["mb"]), [2, 3, 4], gone=[2])
        self.are((5, 4), wish="a")


class TestRunsAndCuts(PostsCase):
    """Step 3."""

    def test_more_copies(self):
        self.turn([wish(copies=1)], machines(ma=1, mb=1, mc=1))
        self.turn([wish(copies=3)], machines(ma=1, mb=1, mc=1))
        self.are((1, None), (2, None), (3, None))
        self.reasons(filled=[2, 3])

    def test_fewer_copies(self):
        self.turn([wish(copies=3)], machines(ma=1, mb=1, mc=1))
        self.turn([wish(copies=1)], machines(ma=1, mb=1, mc=1), [1, 2, 3], gone=[2, 3])
        self.are((1, None))
        self.reasons(cut=[2, 3])

    def test_none(self):
        self.turn([wish(copies=2)], machines(ma=1, mb=1))
        self.turn([wish(copies=0)], machines(ma=1, mb=1), [1, 2], gone=[1, 2])
        self.are()
        self.assertIsNone(self.posts.shortage_of("web"))

    def test_empty_ones_first_the_hindmost_of_them(self):
        self.turn([wish(copies=3)], machines(ma=1, mb=1, mc=1))
        self.turn([wish(copies=2)], machines(mb=1, md=1, me=1), gone=[1, 3])
        self.are((4, None), (2, None))
        self.reasons(silent=[1, 3], filled=[4])

    def test_empty_ones_ahead_of_those_that_do_not_answer(self):
        self.turn([wish(copies=3)], machines(ma=1, mb=1, mc=1))
        self.turn([wish(copies=2)], machines(mb=1, mc=1, md=1), gone=[1])
        self.are((2, None), (3, None))

    def test_those_that_do_not_answer_ahead_of_those_that_do(self):
        self.turn([wish(copies=3)], machines(ma=1, mb=1, mc=1))
        self.turn([wish(copies=2)], machines(ma=1, mb=1, mc=1), [2, 3], gone=[1])
        self.are((2, None), (3, None))
        self.reasons(cut=[1])

    def test_a_leaving_one_that_answers(self):
        rooms = {"ma": 1, "mb": 1, "mc": 1}
        self.turn([wish(copies=2)], machines(**rooms))
        self.turn([wish(copies=2)], machines(emptied=["ma"], **rooms), [1, 2])
        self.are((3, 1), (2, None))
        self.turn([wish(copies=1)], machines(emptied=["ma"], **rooms), [1], gone=[2])
        self.are((3, 1))
        self.reasons(cut=[2])

    def mixed_editions(self):
        rooms = {"ma": 1, "mb": 1, "mc": 1}
        self.turn([wish(copies=2)], machines(**rooms))
        self.turn([wish(copies=3, keep=2, edition=2)], machines(**rooms), [1, 2])
        self.are((1, None), (2, None), (3, None))
        return machines(**rooms)

    def test_elder_ones_ahead_of_others(self):
        rooms = self.mixed_editions()
        self.turn([wish(copies=2, keep=1, edition=2)], rooms, [1, 2, 3], gone=[1, 2])
        self.are((4, None), (3, None))
        self.reasons(cut=[2], rolled=[1], filled=[4])

    def test_those_that_do_not_answer_ahead_of_elder_ones(self):
        rooms = self.mixed_editions()
        self.turn([wish(copies=2, keep=1, edition=2)], rooms, [1, 2], gone=[1, 3])
        self.are((4, None), (2, None))
        self.reasons(cut=[3], rolled=[1], filled=[4])

    def test_elder_ones_that_do_not_answer_ahead_of_others_that_do_not(self):
        rooms = self.mixed_editions()
        self.turn([wish(copies=2, keep=1, edition=2)], rooms, [1], gone=[2])
        self.are((1, None), (3, None))
        self.reasons(cut=[2])

    def test_one_without_a_copy_as_an_elder_one(self):
        rooms = {"ma": 1, "mb": 1, "mc": 1}
        self.turn([wish(copies=2)], machines(**rooms))
        self.turn([wish(copies=1)], machines(emptied=["ma"], **rooms), [1, 2], gone=[1])
        self.are((2, None))
        self.reasons(cut=[1])

    def test_the_greatest_number_in_it_first(self):
        self.turn([wish(copies=2)], machines(ma=1, mb=1, mc=1))
        self.turn([wish(copies=2)], machines(emptied=["ma"], ma=1, mb=1, mc=1), [1, 2])
        self.are((3, 1), (2, None))
        self.turn([wish(copies=1)], machines(emptied=["ma"], ma=1, mb=1, mc=1), [1, 2], gone=[1, 3])
        self.are((2, None))
        self.reasons(cut=[1, 3])

    def test_the_greatest_number_where_it_is_the_leaving_one(self):
        # Both posts lack a copy behind step 2; the greater leaving one is in the first post.
        rooms = {"ma": 1, "mb": 1, "mc": 1, "md": 1}
        self.turn([wish(copies=2)], machines(**rooms))
        self.turn([wish(copies=2)], machines(emptied=["ma"], **rooms), [2], gone=[1])
        self.are((3, None), (2, None))
        self.lie(mb=[2], mc=[3])
        self.turn([wish(copies=1)], machines(emptied=["mb", "mc"], **rooms), [2, 3], gone=[3])
        self.are((4, 2))
        self.reasons(cut=[3], filled=[4])

    def test_a_lower_rank_loses_its_berths(self):
        rooms = machines(ma=1, mb=1)
        self.turn([wish("a", "x", 2), wish("b", "y", 2)], rooms)
        self.assertEqual(self.posts.runs(), [("a", 2), ("b", 0)])
        self.assertEqual(self.posts.shortage_of("b"), (2, 3, 2))
        self.turn([wish("b", "y", 2), wish("a", "x", 2)], rooms, [1, 2], gone=[1, 2])
        self.assertEqual(self.posts.runs(), [("b", 2), ("a", 0)])
        self.assertEqual(self.posts.shortage_of("a"), (2, 3, 2))
        self.assertIsNone(self.posts.shortage_of("b"))
        self.are((3, None), (4, None), wish="b")
        self.reasons(cut=[1, 2], filled=[3, 4])

    def test_shortage_is_of_the_last_turn(self):
        self.turn([wish(copies=2)], machines(ma=3))
        self.assertEqual(self.posts.shortage_of("web"), (1, 2, 1))
        self.assertIsNone(self.posts.shortage_of("db"))
        self.turn([wish(copies=2)], machines(ma=3, mb=1), [1])
        self.assertIsNone(self.posts.shortage_of("web"))
        self.turn([], machines(ma=3, mb=1), gone=[1, 2])
        self.assertIsNone(self.posts.shortage_of("web"))
        self.assertEqual(self.posts.runs(), [])


class TestLeft(PostsCase):
    """Step 4."""

    def setUp(self):
        super().setUp()
        self.turn([wish()], machines(ma=1, mb=1))
        self.turn([wish()], machines(ma=1, mb=1, emptied=["ma"]), [1])
        self.are((2, 1))

    def go_on(self, answering, gone=()):
        self.turn([wish()], machines(ma=1, mb=1, emptied=["ma"]), answering, gone)

    def test_stays_while_it_alone_answers(self):
        for _ in range(3):
            self.go_on([1])
            self.are((2, 1))
            self.reasons()

    def test_gone_where_the_copy_answers(self):
        self.go_on([1, 2], gone=[1])
        self.are((2, None))
        self.reasons(left=[1])

    def test_gone_where_the_copy_alone_answers(self):
        self.go_on([2], gone=[1])
        self.are((2, None))

    def test_gone_where_none_answers(self):
        self.go_on([], gone=[1])
        self.are((2, None))
        self.reasons(left=[1])


class TestRolling(PostsCase):
    """Step 5, and the gate [73]."""

    def rolled(self, copies, keep, answering, gone):
        self.posts = Posts()
        rooms = machines(ma=1, mb=1, mc=1)
        self.turn([wish(copies=copies)], rooms)
        self.turn([wish(copies=copies, keep=keep, edition=2)], rooms, answering, gone)

    def test_at_a_gate_of_none_all_at_once(self):
        self.rolled(2, 0, [1, 2], [1, 2])
        self.are((3, None), (4, None))
        self.assertEqual([row[3] for row in self.posts.planned()], [2, 2])
        self.reasons(rolled=[1, 2], filled=[3, 4])

    def test_down_to_the_gate_by_rising_numbers(self):
        self.rolled(3, 1, [1, 2, 3], [1, 2])
        self.are((4, None), (5, None), (3, None))
        self.rolled(3, 2, [1, 2, 3], [1])
        self.are((4, None), (2, None), (3, None))

    def test_those_that_do_not_answer_whatever_the_gate(self):
        self.rolled(3, 2, [2], [1, 3])
        self.are((4, None), (2, None), (5, None))
        self.rolled(3, 2, [], [1, 2, 3])
        self.reasons(rolled=[1, 2, 3], filled=[4, 5, 6])

    def test_those_that_do_not_answer_do_not_count(self):
        self.rolled(3, 1, [1, 3], [1, 2])
        self.are((4, None), (5, None), (3, None))

    def test_keep_as_the_run_and_beyond_it(self):
        for keep in (2, 3, 5):
            self.rolled(2, keep, [1, 2], [1])
            self.are((3, None), (2, None))
        for keep in (1, 2, 5):
            self.rolled(1, keep, [1], [1])
            self.are((2, None))

    def test_the_gate_goes_by_the_run_not_the_copies(self):
        self.turn([wish(copies=3)], machines(ma=2, mb=2))
        self.assertEqual(self.posts.runs(), [("web", 2)])
        self.turn([wish(copies=3, keep=2, edition=2)], machines(ma=2, mb=2), [1, 2], gone=[1])
        self.are((3, None), (2, None))

    def test_turn_by_turn(self):
        rooms = machines(ma=1, mb=1)
        rows = [wish(copies=2, keep=1, edition=2)]
        self.turn([wish(copies=2)], rooms)
        self.turn(rows, rooms, [1, 2], gone=[1])
        self.turn(rows, rooms, [2])
        self.turn(rows, rooms, [2])
        self.turn(rows, rooms, [2, 3], gone=[2])
        self.are((3, None), (4, None))
        self.turn(rows, rooms, [3])
        self.turn(rows, rooms, [3, 4])
        self.are((3, None), (4, None))

    def test_back_to_an_edition_ahead(self):
        rooms = machines(ma=1, mb=1)
        self.turn([wish(copies=2, edition=2)], rooms)
        self.turn([wish(copies=2, keep=1, edition=1, start=1)], rooms, [1, 2], gone=[1])
        self.assertEqual(self.posts.copy_of(3), (3, "web", "front", 1, 1, 1, "ma"))

    def test_not_in_a_post_with_a_leaving_one(self):
        rooms = machines(ma=1, mb=1, emptied=["ma"])
        self.turn([wish()], machines(ma=1, mb=1))
        self.turn([wish()], rooms, [1])
        self.are((2, 1))
        self.turn([wish(edition=2)], rooms, [1])
        self.are((2, 1))

    def test_behind_the_leaving_one_in_the_same_turn(self):
        rooms = machines(ma=1, mb=1, emptied=["ma"])
        self.turn([wish()], machines(ma=1, mb=1))
        self.turn([wish()], rooms, [1])
        self.turn([wish(edition=2)], rooms, [1, 2], gone=[1, 2])
        self.are((3, None))
        self.reasons(left=[1], rolled=[2], filled=[3])

    def test_posts_answering_by_their_leaving_ones_count(self):
        rooms = {"ma": 1, "mb": 1, "mc": 1}
        self.turn([wish(copies=2)], machines(**rooms))
        self.turn([wish(copies=2)], machines(emptied=["ma"], **rooms), [1, 2])
        self.are((3, 1), (2, None))
        self.turn([wish(copies=2, keep=1, edition=2)], machines(emptied=["ma"], **rooms), [1, 2], gone=[2])
        self.are((3, 1), (4, None))
        self.reasons(rolled=[2], filled=[4])

    def test_one_wish_alone(self):
        rooms = machines(ma=2, mb=2)
        self.turn([wish(), wish("db", "back")], rooms)
        self.turn([wish(), wish("db", "back", edition=2)], rooms, [1, 2], gone=[2])
        self.are((1, None))
        self.are((3, None), wish="db")

    def test_the_new_copies_take_the_old_ones_berths(self):
        self.turn([wish(copies=2)], machines(ma=1, mb=1))
        self.turn([wish(copies=2, edition=2)], machines(ma=1, mb=1), [1, 2], gone=[1, 2])
        self.lie(ma=[3], mb=[4])


class TestMoves(PostsCase):
    """Step 7."""

    def one_move(self):
        rows = [wish("a", "y"), wish("b", "x", 2)]
        self.turn(rows[:1], machines(ma=1))
        self.turn(rows, machines(ma=1, mb=2))
        self.are((3, 1), wish="a")
        self.are((2, None), (None, None), wish="b")
        self.lie(ma=[1], mb=[2, 3])
        self.reasons(filled=[2], moved=[3])
        return rows, machines(ma=1, mb=2)

    def test_one_move(self):
        rows, rooms = self.one_move()
        self.turn(rows, rooms, [1, 2])
        self.reasons()
        self.turn(rows, rooms, [1, 2, 3], gone=[1])
        self.are((3, None), wish="a")
        self.are((2, None), (4, None), wish="b")
        self.lie(ma=[4], mb=[2, 3])
        self.reasons(left=[1], filled=[4])

    def test_the_one_that_leaves_does_not_answer(self):
        rows, rooms = self.one_move()
        self.turn(rows, rooms, [2], gone=[1])
        self.lie(ma=[4], mb=[2, 3])

    def test_the_machine_moved_to_is_not_heard(self):
        rows, _ = self.one_move()
        self.turn(rows, machines(ma=1), [1, 2, 3], gone=[2, 3])
        self.are((1, None), wish="a")
        self.are(wish="b")

    def test_several_moves_one_step_a_turn(self):
        rows = [wish("a", "y", 2), wish("b", "x", 3), wish("c", "z")]
        self.turn([wish("a", "y", 1)], machines(ma=1))
        self.turn([wish("a", "y", 1), wish("b", "x", 1), wish("c", "z")], machines(ma=1, mb=2), [1])
        self.lie(ma=[1], mb=[2, 3])
        rooms = machines(ma=1, mb=2, mc=3)
        self.turn(rows, rooms, [1, 2, 3])
        self.lie(ma=[1], mb=[2, 3], mc=[4, 5, 6])
        self.are((6, 3), wish="c")
        self.are((2, None), (5, None), (None, None), wish="b")
        self.reasons(filled=[4, 5], moved=[6])
        self.turn(rows, rooms, [1, 2, 3, 4, 5])
        self.reasons()
        self.turn(rows, rooms, [1, 2, 3, 4, 5, 6], gone=[3])
        self.are((7, 1), (4, None), wish="a")
        self.reasons(left=[3], moved=[7])
        self.turn(rows, rooms, [1, 2, 4, 5, 6, 7], gone=[1])
        self.lie(ma=[8], mb=[2, 7], mc=[4, 5, 6])
        self.are((2, None), (5, None), (8, None), wish="b")
        self.reasons(left=[1], filled=[8])

    def test_none_while_a_post_has_both(self):
        rows = [wish("a", "y"), wish("c", "z"), wish("b", "x", 2)]
        self.turn(rows[:2], machines(ma=1, mc=1))
        self.lie(ma=[1], mc=[2])
        # The copy of c leaves mc for mb, so that the move for b has to wait.
        rooms = machines(ma=1, mb=3, mc=1, emptied=["mc"])
        self.turn(rows, rooms, [1, 2])
        self.are((3, 2), wish="c")
        self.are((4, None), (None, None), wish="b")
        self.are((1, None), wish="a")
        self.reasons(filled=[3, 4])
        self.turn(rows, rooms, [1, 2, 3, 4], gone=[2])
        self.are((5, 1), wish="a")
        self.reasons(left=[2], moved=[5])

    def test_a_moved_copy_is_of_the_told_edition(self):
        self.turn([wish("a", "y")], machines(mc=1))
        self.turn([wish("a", "y", 2)], machines(ma=1, mc=1), [1])
        self.lie(mc=[1], ma=[2])
        told = wish("a", "y", 2, 1, 2, 2, 3)
        self.turn([told], machines(ma=1, mc=1), [1, 2], gone=[1])
        self.lie(ma=[2], mc=[3])
        # Kept by the gate, the elder copy on ma doesn't roll, but it moves.
        self.turn([told, wish("b", "x", 2)], machines(ma=1, mb=3, mc=1), [2])
        self.are((3, None), (5, 2), wish="a")
        self.assertEqual(self.posts.copy_of(2), (2, "a", "y", 1, 0, 1, "ma"))
        self.assertEqual(self.posts.copy_of(5), (5, "a", "y", 2, 2, 3, "mb"))
        self.reasons(filled=[4], moved=[5])

    def test_copies_on_emptied_machines_are_no_part_of_a_way(self):
        rows = [wish("c", "y"), wish("a", "x", 2)]
        self.turn(rows[:1], machines(ma=1))
        self.turn(rows, machines(ma=1, mb=2, mc=1), [1])
        self.lie(ma=[1], mb=[2], mc=[3])
        rooms = machines(ma=1, mb=2, mc=1, emptied=["mc"])
        self.turn(rows, rooms, [1, 2, 3])
        self.are((2, None), (None, 3), wish="a")
        self.are((4, 1), wish="c")
        self.reasons(moved=[4])
        self.turn(rows, rooms, [1, 2, 3, 4], gone=[1])
        self.are((2, None), (5, 3), wish="a")
        self.lie(ma=[5], mb=[2, 4], mc=[3])

    def test_for_the_first_post_without_a_copy(self):
        rows = [wish("a", "y"), wish("b", "x", 2), wish("c", "z", 2)]
        self.turn(rows[:1], machines(ma=1))
        self.turn(rows, machines(ma=1, mb=4), [1])
        self.assertEqual(self.posts.runs(), [("a", 1), ("b", 2), ("c", 1)])
        self.are((4, 1), wish="a")


class TestWhatIsTold(PostsCase):
    def setUp(self):
        super().setUp()
        self.wishes = [wish(copies=2), wish("db", "back", 3)]
        self.machines = machines(ma=2, mb=1)
        self.answering = [1]

    def test_what_was_handed_in_stays(self):
        handed = (self.wishes, self.machines, self.answering)
        before = copy.deepcopy(handed)
        self.posts.turn(*handed)
        self.posts.turn(*handed)
        self.assertEqual(handed, before)

    def test_what_was_handed_in_may_be_changed(self):
        self.posts.turn(self.wishes, self.machines, self.answering)
        before = told(self.posts)
        self.wishes.clear()
        self.machines.clear()
        self.answering.clear()
        self.assertEqual(told(self.posts), before)
        self.posts.turn([wish(copies=2), wish("db", "back", 3)], machines(ma=2, mb=1), [])
        self.assertEqual(self.posts.reasons(), [])

    def test_is_the_askers_own(self):
        gone = self.posts.turn(self.wishes, self.machines, self.answering)
        before = told(self.posts)
        gone.append(1)
        for each in (
            self.posts.posts_of("web"), self.posts.planned(), self.posts.planned_on("ma"), self.posts.runs(),
            self.posts.reasons(),
        ):
            self.assertTrue(each)
            each.clear()
        self.assertEqual(told(self.posts), before)

    def test_stays_when_the_posts_go_on(self):
        self.posts.turn(self.wishes, self.machines, self.answering)
        asked = (self.posts.posts_of("web"), self.posts.planned(), self.posts.runs(), self.posts.reasons())
        same = copy.deepcopy(asked)
        self.posts.turn([wish(copies=1, edition=2)], self.machines, [])
        self.assertEqual(asked, same)

    def test_questions_change_nothing(self):
        self.posts.turn(self.wishes, self.machines, self.answering)
        self.assertEqual(told(self.posts), told(self.posts))

    def test_two_know_nothing_of_each_other(self):
        other = Posts()
        self.posts.turn(self.wishes, self.machines, self.answering)
        self.assertEqual(told(other), told(Posts()))


if __name__ == "__main__":
    unittest.main()
