"""Points [70] to [75] word by word, slowly, for tests to hold the posts against."""

from placedworks.sums import runs_of, shortage
from test_ways import all_ways


class PostsByWords:
    def __init__(self):
        self.posts = {}
        self.copies = {}
        self.next = 1
        self.runs = []
        self.shortages = {}
        self.reasons = []

    def turn(self, wishes, machines, answering):
        self.wishes, self.answering = wishes, answering
        self.heard = [machine for machine, _, _ in machines]
        self.usable = [(machine, berths) for machine, berths, emptied in machines if not emptied]
        self.reasons = []
        for step in (self.step1, self.step2, self.step3, self.step4, self.step5, self.step6, self.step7):
            step()
        self.reasons.sort()
        return [number for number, word in self.reasons if word not in ("filled", "moved")]

    def gone(self, number, word):
        del self.copies[number]
        self.reasons.append((number, word))
        for posts in self.posts.values():
            for post in posts:
                for side in (0, 1):
                    if post[side] == number:
                        post[side] = None

    def put(self, post, wish, machine, word):
        name, kind, _, _, edition, start, hands = wish
        self.copies[self.next] = (self.next, name, kind, edition, start, hands, machine)
        self.reasons.append((self.next, word))
        post[0] = self.next
        self.next += 1

    def every_post(self):
        return [(wish, post) for wish in self.wishes for post in self.posts[wish[0]]]

    def answers(self, post):
        return post[0] in self.answering or post[1] in self.answering

    def is_usable(self, number):
        return self.copies[number][6] in dict(self.usable)

    def is_elder(self, number):
        told = {wish[0]: wish[4] for wish in self.wishes}
        return self.copies[number][3] != told[self.copies[number][1]]

    def step1(self):
        kinds = {wish[0]: wish[1] for wish in self.wishes}
        for number, wish, kind, _, _, _, machine in list(self.copies.values()):
            if kinds.get(wish) != kind:
                self.gone(number, "ended")
            elif machine not in self.heard:
                self.gone(number, "silent")
        self.posts = {wish: self.posts.get(wish, []) for wish in kinds}

    def step2(self):
        for _, post in self.every_post():
            if post[0] and not self.is_usable(post[0]):
                if post[1] is None:
                    post[:] = [None, post[0]]
                else:
                    known = [number for number in post if number in self.answering]
                    stays = known[0] if len(known) == 1 else max(post)
                    self.gone(min(post) if stays == max(post) else max(post), "emptied")
                    post[:] = [None, stays]
            if post[1] and post[0] is None and self.is_usable(post[1]):
                post[:] = [post[1], None]

    def step3(self):
        asked = [wish[:3] for wish in self.wishes]
        self.runs = runs_of(self.usable, asked)
        self.shortages = {wish[0]: shortage(self.usable, asked, at) for at, wish in enumerate(self.wishes)}
        for wish, run in self.runs:
            posts = self.posts[wish]
            while len(posts) < run:
                posts.append([None, None])
            while len(posts) > run:
                self.cut_one(posts)

    def cut_one(self, posts):
        empty = [at for at, post in enumerate(posts) if post == [None, None]]
        if empty:
            del posts[empty[-1]]
            return
        silent = [post for post in posts if not self.answers(post)]
        left = silent or posts
        worse = [post for post in left if post[0] is None or self.is_elder(post[0])]
        worst = max(worse or left, key=lambda post: max([number for number in post if number]))
        for number in [number for number in worst if number]:
            self.gone(number, "cut")
        posts.pop(next(at for at, post in enumerate(posts) if post is worst))

    def step4(self):
        for _, post in self.every_post():
            if post[1] and (post[0] in self.answering or post[1] not in self.answering):
                self.gone(post[1], "left")

    def step5(self):
        for (name, _, _, keep, _, _, _), (_, run) in zip(self.wishes, self.runs):
            gate = max(0, min(keep, run - 1))
            posts = self.posts[name]
            for copy, leaving in [tuple(post) for post in posts]:
                if copy and self.is_elder(copy) and copy not in self.answering and leaving is None:
                    self.gone(copy, "rolled")
            for copy, leaving in sorted([tuple(post) for post in posts if post[0] and post[1] is None]):
                if self.is_elder(copy) and len([post for post in posts if self.answers(post)]) - 1 >= gate:
                    self.gone(copy, "rolled")

    def step6(self):
        for wish, post in self.every_post():
            if post[0] is None:
                free = []
                for machine, berths in self.usable:
                    kinds = [row[2] for row in self.copies.values() if row[6] == machine]
                    if len(kinds) < berths and wish[1] not in kinds:
                        free.append((len(kinds) - berths, machine))
                if free:
                    self.put(post, wish, min(free)[1], "filled")

    def step7(self):
        lacking = [wish for wish, post in self.every_post() if post[0] is None]
        if not lacking or [post for _, post in self.every_post() if post[0] and post[1]]:
            return
        lying = sorted((row[0], row[2], row[6]) for row in self.copies.values() if row[6] in dict(self.usable))
        ways = all_ways(self.usable, lying, lacking[0][1])
        if not ways:
            return
        way = min(ways, key=lambda each: (len(each), each))
        for wish, post in self.every_post():
            if post[0] == way[-2]:
                post[1] = way[-2]
                self.put(post, wish, way[-1], "moved")
                return
