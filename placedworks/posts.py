"""Posts: for each copy that shall run its place in a plan, and how the plan changes turn by turn."""

from placedworks.moves import machine_for, step_for
from placedworks.sums import running, shortages_of


class Sight:
    """What one turn of posts goes by."""

    def __init__(self, wishes, machines, answering):
        self.wish_rows = {row[0]: row for row in wishes}
        self.heard_names = [machine for machine, berths, emptied in machines]
        self.usable = {machine: berths for machine, berths, emptied in machines if not emptied}
        self.answering = {number: True for number in answering}

    def kind_of(self, wish):
        """The kind of a wish."""
        return self.wish_rows[wish][1]

    def is_told(self, wish, edition):
        """Whether an edition is the told one of a wish."""
        return self.wish_rows[wish][4] == edition

    def gate_of(self, wish, run):
        """How many posts of a wish that answer are left, at least, where copies are rolled."""
        return max(min(self.wish_rows[wish][3], run - 1), 0)

    def post_answers(self, post):
        """Whether a post's copy or its leaving one is known to answer."""
        copy, leaving = post
        return copy in self.answering or leaving in self.answering


class Posts:
    """The posts of all wishes, at first none; a post is a tuple (copy, leaving)."""

    def __init__(self):
        # By rank, as the last turn told the wishes.
        self.posted = {}
        # By rising number, since each new number is the greatest one.
        self.copy_rows = {}
        self.next_number = 1
        self.ran = []
        self.shortages = {}
        self.words_of = {}

    def turn(self, wishes, machines, answering):
        """Make a turn of posts, and tell the sorted list of the numbers that are gone by it."""
        sight = Sight(wishes, machines, answering)
        self.words_of = {}
        self.drop_ended_and_silent(sight)
        self.leave_emptied(sight)
        self.fit_runs(sight)
        self.drop_left(sight)
        self.roll(sight)
        self.fill_posts(sight)
        self.move_on(sight)
        return sorted([number for number in self.words_of if number not in self.copy_rows])

    def lose(self, number, word):
        """Take a copy out of the plan; its post is told of it by forget_gone."""
        del self.copy_rows[number]
        self.words_of[number] = word

    def forget_gone(self):
        """Take the copies that are gone out of their posts."""
        self.posted = {wish: [self.without_gone(post) for post in posts] for wish, posts in self.posted.items()}

    def without_gone(self, post):
        """A post with None in place of what is gone."""
        copy, leaving = post
        return (copy if copy in self.copy_rows else None, leaving if leaving in self.copy_rows else None)

    def drop_ended_and_silent(self, sight):
        """Step 1: lose copies of ended wishes, of other kinds, and on machines that aren't heard."""
        for number, wish, kind, edition, start, hands, machine in self.planned():
            if wish not in sight.wish_rows or kind != sight.kind_of(wish):
                self.lose(number, "ended")
            elif machine not in sight.heard_names:
                self.lose(number, "silent")
        self.posted = {wish: self.posts_of(wish) for wish in sight.wish_rows}
        self.forget_gone()

    def leave_emptied(self, sight):
        """Step 2: copies on emptied machines are leaving; a leaving one on a usable machine may stay."""
        self.posted = {wish: [self.off_emptied(post, sight) for post in posts] for wish, posts in self.posted.items()}

    def off_emptied(self, post, sight):
        """A post as step 2 makes it."""
        copy, leaving = post
        if copy is not None and not self.lies_usable(copy, sight):
            copy, leaving = None, self.one_leaving(copy, leaving, sight)
        if copy is None and leaving is not None and self.lies_usable(leaving, sight):
            return (leaving, None)
        return (copy, leaving)

    def lies_usable(self, number, sight):
        """Whether a copy is planned on a usable machine."""
        return self.copy_rows[number][6] in sight.usable

    def one_leaving(self, copy, leaving, sight):
        """The one that stays as the leaving one, of a copy on an emptied machine and the leaving one there is."""
        if leaving is None:
            return copy
        first, last = sorted([copy, leaving], key=lambda number: (number in sight.answering, number))
        self.lose(first, "emptied")
        return last

    def fit_runs(self, sight):
        """Step 3: as many posts as each wish runs."""
        rooms = list(sight.usable.values())
        asked = [row[:3] for row in sight.wish_rows.values()]
        ran = running(rooms, asked)
        self.ran = [(wish, run) for wish, kind, run in ran]
        self.shortages = dict(zip(sight.wish_rows, shortages_of(rooms, asked, ran)))
        for wish, run in self.ran:
            self.cut_posts(wish, run, sight)
            self.posted[wish] += [(None, None)] * (run - len(self.posted[wish]))

    def cut_posts(self, wish, run, sight):
        """Cut the posts of a wish that are more than its run, with their copies."""
        posts = self.posted[wish]
        order = sorted(range(len(posts)), key=lambda at: self.cut_order(posts[at], at, sight))
        cut = order[:max(len(posts) - run, 0)]
        for at in cut:
            for number in posts[at]:
                if number is not None:
                    self.lose(number, "cut")
        self.posted[wish] = [post for at, post in enumerate(posts) if at not in cut]

    def cut_order(self, post, at, sight):
        """By what posts of a wish are sorted, the ones that are cut first ahead."""
        numbers = [number for number in post if number is not None]
        if not numbers:
            return (False, False, False, -at)
        copy, leaving = post
        return (True, sight.post_answers(post), copy is not None and not self.is_elder(copy, sight), -max(numbers))

    def is_elder(self, number, sight):
        """Whether a copy's edition isn't its wish's told one."""
        row = self.copy_rows[number]
        return not sight.is_told(row[1], row[3])

    def drop_left(self, sight):
        """Step 4: lose leaving ones that aren't needed any more, or don't answer."""
        for posts in self.posted.values():
            for copy, leaving in posts:
                if leaving is not None and (copy in sight.answering or leaving not in sight.answering):
                    self.lose(leaving, "left")
        self.forget_gone()

    def roll(self, sight):
        """Step 5: lose elder copies, those that answer only down to the gate."""
        for wish, run in self.ran:
            posts = self.posted[wish]
            alone = [copy for copy, leaving in posts if copy is not None and leaving is None]
            spare = len([post for post in posts if sight.post_answers(post)]) - sight.gate_of(wish, run)
            for number in sorted([copy for copy in alone if self.is_elder(copy, sight)]):
                if number not in sight.answering:
                    self.lose(number, "rolled")
                elif spare > 0:
                    self.lose(number, "rolled")
                    spare -= 1
        self.forget_gone()

    def fill_posts(self, sight):
        """Step 6: put copies for posts that have none, where a machine has room."""
        for wish in sight.wish_rows:
            posts = []
            for copy, leaving in self.posted[wish]:
                machine = None
                if copy is None:
                    machine = machine_for(list(sight.usable.items()), self.lying_usable(sight), sight.kind_of(wish))
                if machine is not None:
                    copy = self.put_copy(wish, machine, "filled", sight)
                posts.append((copy, leaving))
            self.posted[wish] = posts

    def put_copy(self, wish, machine, word, sight):
        """Plan a new copy of a wish on a machine, and tell its number."""
        same, kind, copies, keep, edition, start, hands = sight.wish_rows[wish]
        number = self.next_number
        self.next_number += 1
        self.copy_rows[number] = (number, wish, kind, edition, start, hands, machine)
        self.words_of[number] = word
        return number

    def lying_usable(self, sight):
        """The list of (number, kind, machine) of the copies on usable machines, by rising number."""
        return [(row[0], row[2], row[6]) for row in self.copy_rows.values() if row[6] in sight.usable]

    def move_on(self, sight):
        """Step 7: where no move is under way, go one step for the first post without a copy."""
        for posts in self.posted.values():
            if any([copy is not None and leaving is not None for copy, leaving in posts]):
                return
        for wish, posts in self.posted.items():
            if any([copy is None for copy, leaving in posts]):
                self.go_one_step(sight.kind_of(wish), sight)
                return

    def go_one_step(self, kind, sight):
        """Put a copy at the end of the way for a kind, for the post of the last one on that way, which leaves."""
        step = step_for(list(sight.usable.items()), self.lying_usable(sight), kind)
        if step is None:
            return
        number, machine = step
        wish = self.copy_rows[number][1]
        at = self.posted[wish].index((number, None))
        self.posted[wish][at] = (self.put_copy(wish, machine, "moved", sight), number)

    def posts_of(self, wish):
        """The posts of a wish, [] of one that isn't there."""
        return list(self.posted.get(wish, []))

    def copy_of(self, number):
        """A planned copy by its number, or None."""
        return self.copy_rows.get(number)

    def planned(self):
        """All planned copies, sorted."""
        return list(self.copy_rows.values())

    def planned_on(self, machine):
        """The planned copies of a machine, sorted."""
        return [row for row in self.copy_rows.values() if row[6] == machine]

    def coming(self):
        """The number of the next copy."""
        return self.next_number

    def runs(self):
        """The list of (wish, run) of the last turn, by rank."""
        return list(self.ran)

    def reasons(self):
        """The sorted list of (number, word) of all that the last turn lost or put."""
        return sorted(self.words_of.items())

    def shortage_of(self, wish):
        """Why no more of a wish ran in the last turn; None where all ran, or there is no such wish."""
        return self.shortages.get(wish)
