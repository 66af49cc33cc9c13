"""Promise 3: the whole, over long drawn rows of all that can be done to a World.

The rows are drawn by a fixed rule. Behind each step or two the judge finds that
the order and what was told fit; what was told, and the order, stay; the house's
papers are taken; and at last all comes to rest, and all is answered.
"""

import unittest

from farfiles.checker import holds
from farfiles.errors import FarError, HouseError
from farfiles.judging import judge
from farfiles.papers import paper_newest, paper_room, paper_told
from farfiles.trees import Tree
from farfiles.worlds import World
from worlds_watched import KINDS, Draw, Watched, drawn_step, finish, setup

GROUPS = (("root", ("ann",)), ("staff", ("ann", "bob")))


class WholeCase(unittest.TestCase):
    def story(self, watched):
        world = watched.world
        return (watched.groups, watched.users, world.order(), world.told())

    def check_stays(self, ahead, story):
        """The order goes on behind the one told ahead, and no answer becomes another."""
        _, _, order, told = story
        self.assertEqual(order[:len(ahead[2])], ahead[2])
        answers = {row[0]: row for row in told}
        for row in ahead[3]:
            self.assertEqual(answers[row[0]], row)

    def run_row(self, seed, kind, steps, every):
        """A drawn row of steps, judged behind every so many of them."""
        draw = Draw(seed)
        users = tuple([draw.one(("ann", "bob", "eve", "root")) for _ in range(1 + draw.below(4))])
        pieces = 1 + draw.below(5)
        copies = 1 + draw.below(min(3, pieces))
        watched = Watched(self, users, groups=draw.one(((), GROUPS)), pieces=pieces, copies=copies)
        setup(watched)
        harm = draw.one((5, 20, 40))
        ahead = self.story(watched)
        for step in range(steps):
            drawn_step(watched, draw, harm, KINDS[kind])
            if step % every == 0:
                story = self.story(watched)
                self.assertIsNone(judge(*story))
                self.check_stays(ahead, story)
                ahead = story
        watched.check()
        finish(watched)
        story = self.story(watched)
        self.assertIsNone(judge(*story))
        self.check_stays(ahead, story)
        return watched, draw

    def check_answered(self, watched):
        """All is answered but what was asked of an asker that fell, where calm tells that all is well."""
        if not watched.must_be_calm():
            return 0
        self.assertIs(watched.world.calm(), True)
        for question in range(len(watched.asked)):
            told = watched.world.answer(question)
            self.assertEqual(told is None, question in watched.fallen, watched.asked[question])
        return 1

    def check_papers(self, watched, draw):
        """Each claim of the house is taken, and no other one of its kind."""
        groups, users, order, told = self.story(watched)
        self.assertIs(holds(*paper_told(groups, users, order, told)), True)
        seen = {"room": 0, "newest": 0}
        for at, _, _, _, _ in order[::5]:
            path = draw.one((("b",), ("a", "b"), ("a",), ()))
            user = draw.one(("ann", "bob", "root", "none"))
            found = paper_newest(groups, users, order, user=user, path=path, place=at)
            tree, sights = Tree(groups), []
            for place, tick, asker, _, deed in order:
                tree.do(tick, users[int(asker[1:])], deed)
                sights += [tree.sight(user, path)] if place >= at else []
            self.assertEqual(found is not None, sights == sights[:1] * len(sights))
            if found is not None:
                self.assertIs(holds(*found), True)
                seen["newest"] += 1
        tree = Tree(groups)
        for at, tick, asker, _, deed in order:
            answer = tree.do(tick, users[int(asker[1:])], deed)
            if answer == ("no", "noroom"):
                self.assertIs(holds(*paper_room(groups, users, order, at)), True)
                seen["room"] += 1
        return seen


class DrawnTest(WholeCase):
    def run_kind(self, kind, seeds, steps, every):
        calms, seen = 0, {"room": 0, "newest": 0}
        for seed in range(seeds):
            with self.subTest(kind=kind, seed=seed):
                watched, draw = self.run_row(seed * 7 + 3, kind, steps, every)
                calms += self.check_answered(watched)
                for word, many in self.check_papers(watched, draw).items():
                    seen[word] += many
        self.assertGreater(calms, seeds // 3)
        self.assertGreater(seen["newest"], seeds)
        return seen

    def test_all(self):
        self.run_kind("all", 25, 400, 4)

    def test_room(self):
        seen = self.run_kind("room", 20, 400, 4)
        self.assertGreater(seen["room"], 3)

    def test_leases(self):
        self.run_kind("leases", 20, 400, 4)

    def test_cells(self):
        self.run_kind("cells", 20, 400, 4)

    def test_heads(self):
        self.run_kind("heads", 20, 400, 4)

    def test_unheard_piece_houses(self):
        self.run_kind("unheard", 20, 400, 4)

    def test_behind_each_step(self):
        for seed in range(3):
            self.run_row(seed, "all", 200, 1)


class OneTreeTest(WholeCase):
    """What stands in the promise of the whole, each shown by itself."""

    def asked(self, world, asker, *deed):
        question = world.ask(asker, deed)
        for _ in range(60):
            while world.letters():
                world.carry(world.letters()[0][0])
            if world.answer(question) is not None:
                return world.answer(question)[0]
            world.tick()
        return None

    def test_a_plain_tree_tells_the_same(self):
        world = World(("ann", "bob"), groups=GROUPS)
        self.asked(world, "a0", "file", ("f",))
        self.asked(world, "a0", "write", ("f",), None, (1, 2))
        self.asked(world, "a1", "read", ("f",))
        tree = Tree(GROUPS)
        answers = [tree.do(row[1], ("ann", "bob")[int(row[2][1])], row[4]) for row in world.order()]
        self.assertEqual(answers, [("done",), ("done", 1), ("done",), ("told", (1, 2))])

    def test_a_write_is_one_deed(self):
        """Every reading has all of it or nothing, whenever it is asked."""
        for steps in range(60):
            world = World(("ann", "bob"))
            self.asked(world, "a0", "file", ("f",))
            self.asked(world, "a0", "write", ("f",), None, (1, 2, 3))
            world.ask("a0", ("write", ("f",), 1, (8, 9)))
            for _ in range(steps):
                if world.letters():
                    world.carry(world.letters()[0][0])
                else:
                    world.tick()
            told = self.asked(world, "a1", "read", ("f",))
            self.assertIn(told, (("told", (1, 2, 3)), ("told", (1, 8, 9))))

    def test_promised_room_is_used_at_once_and_a_promised_write_has_room(self):
        world = World(("root", "ann"), pieces=1, copies=1)
        self.asked(world, "a0", "file", ("f",))
        self.asked(world, "a0", "limit", (), 3)
        world.fall("p0")
        write = world.ask("a0", ("write", ("f",), None, (1, 2)))
        while world.letters():
            world.carry(world.letters()[0][0])
        self.assertIsNone(world.answer(write))
        self.assertEqual(self.asked(world, "a1", "use", ()), ("told", (2, 3)))
        self.assertEqual(self.asked(world, "a1", "write", ("f",), None, (5, 6)), ("no", "noright"))
        world.rise("p0")
        self.assertIs(world.calm(), True)
        self.assertEqual(world.answer(write)[0], ("done",))
        self.assertEqual(self.asked(world, "a0", "write", ("f",), None, (5, 6)), ("no", "noroom"))

    def test_snapshots_read_as_the_folder_was(self):
        world = World(("root",))
        for deed in (("folder", ("d",)), ("file", ("d", "f")), ("write", ("d", "f"), None, (1, 2)), ("snap", ("d",), "s"),
                     ("write", ("d", "f"), 0, (7,)), ("move", ("d", "f"), ("g",)), ("strike", ("d",))):
            self.assertEqual(self.asked(world, "a0", *deed), ("done",))
        for house in ("p0", "p1", "p2"):
            world.bend(house)
            self.assertIs(world.calm(), True)
        self.assertEqual(self.asked(world, "a0", "old", "s", ("f",)), ("told", (1, 2)))
        self.assertEqual(self.asked(world, "a0", "old", "s", ()), ("told", (("f", "file"),)))
        self.assertEqual(self.asked(world, "a0", "read", ("g",)), ("told", (7, 2)))

    def test_told_done_is_told_ever_after(self):
        """Whatever falls, in whatever turn, within the told number."""
        for first in ("h0", "h1"):
            for lost in ("gone", "bend"):
                for piece in ("p0", "p1", "p2"):
                    world = World(("root",))
                    self.asked(world, "a0", "file", ("f",))
                    self.asked(world, "a0", "write", ("f",), None, (1, 2))
                    self.assertIs(world.calm(), True)
                    self.asked(world, "a0", "write", ("f",), None, (3,))
                    world.fall(first)
                    self.assertIs(world.alone(), True)
                    getattr(world, lost)(piece)
                    self.asked(world, "a0", "write", ("f",), 0, (5,))
                    self.assertEqual(self.asked(world, "a0", "read", ("f",)), ("told", (5, 2, 3)))
                    world.rise(first)
                    self.assertIs(world.calm(), True)
                    world.gone({"h0": "h1", "h1": "h0"}[first])
                    self.assertIs(world.alone(), True)
                    self.assertEqual(self.asked(world, "a0", "read", ("f",)), ("told", (5, 2, 3)))
                    story = ((), ("root",), world.order(), world.told())
                    self.assertIsNone(judge(*story))

    def test_what_is_refused_changes_nothing(self):
        """A World that refuses a lot beside one that refuses nothing."""
        bad = (("ask", "a9", ("list", ())), ("ask", "a0", ("list",)), ("answer", 99), ("carry", True), ("carry", 999), ("lose", -1),
               ("double", None), ("tick", 0), ("tick", 201), ("fall", "a9"), ("rise", "h0"), ("gone", "a0"), ("bend", "h0"), ("empty", "a0"),
               ("is_up", "x"))
        for seed in range(5):
            draw = Draw(seed)
            worlds = (World(("ann", "bob")), World(("ann", "bob")))
            for step in range(150):
                for name, *arguments in bad:
                    with self.assertRaises((FarError, HouseError)):
                        getattr(worlds[0], name)(*arguments)
                asker, name = f"a{draw.below(2)}", draw.one(("f", "g"))
                deed = draw.one((("file", (name,)), ("write", (name,), None, (1,)), ("read", (name,)), ("lease", (name,), 4)))
                many = draw.below(5)
                for world in worlds:
                    self.go_on(world, asker, deed, many)
                self.assertEqual(worlds[0].letters(), worlds[1].letters())
            self.assertEqual(worlds[0].order(), worlds[1].order())
            self.assertEqual(worlds[0].told(), worlds[1].told())
            self.assertGreater(len(worlds[0].told()), 5)

    def go_on(self, world, asker, deed, many):
        try:
            world.ask(asker, deed)
        except HouseError:
            pass
        for _ in range(many):
            if world.letters():
                world.carry(world.letters()[0][0])
        if many == 0:
            world.tick()


if __name__ == "__main__":
    unittest.main()
