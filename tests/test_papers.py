"""Promise 19: the house's papers."""

import inspect
import unittest

from farfiles import papers
from farfiles.checker import holds
from farfiles.errors import FarError, NoDeed, NoGroups, NoOrder, NoPlace, NoRows, NoUsers, NoWord
from farfiles.judging import judge
from farfiles.papers import paper_newest, paper_room, paper_told
from farfiles.trees import Tree
from stories import changed, drawn_stories, roomy_story, told_story
from test_checker import FULL, ROOMY, USERS
from test_judge import NO_GROUPS, NO_USERS
from worlds_watched import Draw

INTERFACE = {
    paper_told: "(groups, users, order, told)",
    paper_newest: "(groups, users, order, *, user, path, place)",
    paper_room: "(groups, users, order, place)",
}
NO_PLACES = (None, True, False, 0, -1, 99, 10**20, "1", (1,), [1], {}, b"1")


class PapersCase(unittest.TestCase):
    def refused(self, refusal, field, thing, call, *arguments, **named):
        with self.assertRaises(FarError) as caught:
            call(*arguments, **named)
        self.assertIs(type(caught.exception), refusal)
        found = getattr(caught.exception, field)
        self.assertIs(type(found), type(thing))
        self.assertEqual(found, thing)


class InterfaceTest(PapersCase):
    def test_the_interface(self):
        for call, text in INTERFACE.items():
            self.assertEqual(str(inspect.signature(call)), text)
            self.assertEqual(call.__module__, papers.__name__)
        order = ((1, 0, "a0", 0, ("list", ())),)
        self.assertIsNotNone(paper_told(groups=(), users=("ann",), order=order, told=()))
        self.assertIsNone(paper_room(groups=(), users=("ann",), order=order, place=1))
        found = paper_newest(groups=(), users=("ann",), order=order, user="ann", path=("x",), place=1)
        self.assertEqual(found, (("newest", (), ("ann",), order, "ann", ("x",), (("no", "nothere"),) * 2, 1), None))
        with self.assertRaises(TypeError):
            paper_newest((), ("ann",), order, "ann", ("x",), 1)


class RefusalTest(PapersCase):
    def calls(self):
        """Each function, with good arguments behind the order."""
        return (
            lambda groups, users, order: paper_told(groups, users, order, ()),
            lambda groups, users, order: paper_newest(groups, users, order, user="ann", path=(), place=1),
            lambda groups, users, order: paper_newest(groups, users, order, user="", path=7, place=0),
            lambda groups, users, order: paper_room(groups, users, order, 1),
            lambda groups, users, order: paper_room(groups, users, order, None),
        )

    def test_as_the_judge(self):
        row = (1, 0, "a0", 0, ("list", ()))
        for call in self.calls():
            for groups in NO_GROUPS:
                self.refused(NoGroups, "groups", groups, call, groups, (), None)
            for users in NO_USERS:
                self.refused(NoUsers, "users", users, call, (), users, None)
            for order in (None, 7, [row], {}, ""):
                self.refused(NoOrder, "place", None, call, (), ("ann",), order)
            self.refused(NoOrder, "place", 1, call, (), ("ann",), (row, None, row, None))
            self.refused(NoOrder, "place", 0, call, (), ("ann",), ((True, *row[1:]),))
        self.refused(NoRows, "place", None, paper_told, (), ("ann",), (row,), [])
        self.refused(NoRows, "place", 0, paper_told, (), ("ann",), (row,), (7, 8))

    def test_user_and_path(self):
        row = (1, 0, "a0", 0, ("list", ()))
        for user in ("", "Ann", 7, None, ("ann",), b"ann"):
            self.refused(NoWord, "word", user, paper_newest, (), ("ann",), (row,), user=user, path=7, place=0)
        for path in (None, 7, "d", ["d"], ("D",), ("d",) * 7):
            self.refused(NoDeed, "deed", path, paper_newest, (), ("ann",), (row,), user="ann", path=path, place=0)

    def test_no_place(self):
        row = (1, 0, "a0", 0, ("list", ()))
        for order in ((row,), (row, (3, 0, "a0", 1, ("list", ())))):
            for place in (*NO_PLACES, 2):
                self.refused(NoPlace, "place", place, paper_newest, (), ("ann",), order, user="ann", path=(), place=place)
                self.refused(NoPlace, "place", place, paper_room, (), ("ann",), order, place)
        self.refused(NoPlace, "place", 1, paper_room, (), ("ann",), (), 1)
        # It's refused ahead of what is found in the order.
        self.refused(NoPlace, "place", 2, paper_room, (), ("ann",), (row, row), 2)
        self.refused(NoPlace, "place", 2, paper_newest, (), ("ann",), (row, row), user="ann", path=(), place=2)


class ToldTest(PapersCase):
    def test_fits(self):
        for story in [told_story(), *drawn_stories(self, 30)]:
            self.assertEqual(paper_told(*story), (("fits", *story), None))
            self.assertIs(holds(*paper_told(*story)), True)

    def test_apart(self):
        draw = Draw(3)
        for groups, users, order, told in [told_story(), *drawn_stories(self, 30)]:
            at = draw.below(len(told))
            for spoilt in ((groups, users, order, changed(told, at, 3, ("told", 7))),
                           (groups, users, changed(order, draw.below(len(order)), 2, "a4"), told)):
                found = paper_told(*spoilt)
                self.assertEqual(found, (("apart", *spoilt), judge(*spoilt)))
                self.assertIs(holds(*found), True)


class NewestTest(PapersCase):
    def check(self, story, user, path, every):
        """Whether the sight stays, as the tree tells it, from the first place on, and from others."""
        groups, users, order = story
        tree, sights, seen = Tree(groups), [], []
        for _, tick, asker, _, deed in order:
            tree.do(tick, users[int(asker[1:])], deed)
            sights.append(tree.sight(user, path))
        for at in range(0, len(order), every):
            stays = all(sight == sights[at] for sight in sights[at:])
            seen.append(stays)
            claim = ("newest", groups, users, order, user, path, sights[at], order[at][0])
            found = paper_newest(groups, users, order, user=user, path=path, place=order[at][0])
            self.assertEqual(found, (claim, None) if stays else None)
            self.assertIs(holds(claim, None), stays)
        return seen

    def test_as_the_tree_tells(self):
        seen = set()
        for *story, _ in [told_story(), *drawn_stories(self, 20)]:
            for user in ("ann", "nobody"):
                for path in ((), ("b",), ("a", "b"), ("d", "f"), ("none",)):
                    seen |= set(self.check(story, user, path, 3))
        self.assertEqual(seen, {True, False})

    def test_in_a_tree_without_room(self):
        """Many a deed is refused, and no sight becomes another by such a one."""
        seen = []
        for seed in range(8):
            story, _ = roomy_story(seed, 60)
            for user in ("ann", "root"):
                for path in ((), ("a",), ("a", "d"), ("b", "d"), ("b", "b")):
                    seen += self.check(story, user, path, 4)
        self.assertGreater(min(seen.count(True), seen.count(False)), 100)

    def sight_stays(self, *deeds):
        """Whether what root sees of the file f stays from the place 3, the put behind it, on."""
        rows = [("file", ("f",)), ("promise", ("f",), None, 2), ("put", 1, (7, 8)), *deeds]
        order = tuple([(at, 0, "a0", at - (deed[0] == "put"), deed) for at, deed in enumerate(rows, start=1)])
        self.assertIsNone(judge((), ("root",), order, ()))
        found = paper_newest((), ("root",), order, user="root", path=("f",), place=3)
        sight = (("told", ("file", "root", "root", ("rw", "r", "r"), 2)), ("told", (7, 8)))
        claim = ("newest", (), ("root",), order, "root", ("f",), sight, 3)
        self.assertEqual(found, None if found is None else (claim, None))
        self.assertIs(holds(claim, None), found is not None)
        return found is not None

    def test_what_changes_a_sight_and_what_does_not(self):
        like, other = (("promise", ("f",), 0, 2), ("put", 2, (7, 8))), (("promise", ("f",), 0, 2), ("put", 2, (7, 9)))
        for deeds in ((), like, like[:1], (("limit", (), 9),), (("share", "root", 2),), (("snap", (), "s"),), (("link", ("f",), ("g",)),),
                      (("cut", ("f",), 2),), (("cut", ("f",), 3),), (("file", ("g",)), ("strike", ("g",))), (("strike", ("g",)),),
                      (("rights", ("f",), "root", "root", ("rw", "r", "r")),), (("lease", ("f",), 3), ("back", ("f",)))):
            self.assertTrue(self.sight_stays(*deeds), deeds)
        for deeds in (other, (("cut", ("f",), 1),), (("strike", ("f",)),), (("rights", ("f",), "root", "root", ("rw", "r", "")),),
                      (("rights", ("f",), "ann", "root", ("rw", "r", "r")),), (("rights", ("f",), "root", "one", ("rw", "r", "r")),),
                      # There and back again it was another one for a while.
                      (("move", ("f",), ("g",)), ("move", ("g",), ("f",))), (*other, ("promise", ("f",), 0, 2), ("put", 3, (7, 8))),
                      (("strike", ("f",)), ("file", ("f",)))):
            self.assertFalse(self.sight_stays(*deeds), deeds)

    def test_none_where_something_is_found_in_the_order(self):
        groups, users, order, _ = told_story()
        last = order[-1][0]
        self.assertIsNotNone(paper_newest(groups, users, order, user="bob", path=(), place=last))
        for at in range(len(order)):
            spoilt = changed(order, at, 2, "a5")
            self.assertIsNone(paper_newest(groups, users, spoilt, user="bob", path=(), place=last))
            self.assertIsNone(paper_room(groups, users, spoilt, last))


class RoomTest(PapersCase):
    def test_by_hand(self):
        for at, *_ in ROOMY:
            found = paper_room((), USERS, ROOMY, at)
            if at not in FULL:
                self.assertIsNone(found, at)
                continue
            claim, paper = found
            self.assertEqual(claim, ("noroom", (), USERS, ROOMY, at))
            self.assertIn(paper, FULL[at])
            self.assertIs(holds(claim, paper), True)

    def test_none_where_something_is_found_in_the_order(self):
        spoilt = changed(ROOMY, 18, 3, 0)
        self.assertIsNotNone(judge((), USERS, spoilt, ()))
        for at in FULL:
            self.assertIsNone(paper_room((), USERS, spoilt, at))

    def test_drawn(self):
        seen = 0
        for seed in range(10, 20):
            (groups, users, order), strains = roomy_story(seed, 80)
            for row in order:
                found = paper_room(groups, users, order, row[0])
                self.assertEqual(found is None, row[0] not in strains)
                if found is not None:
                    seen += 1
                    claim, paper = found
                    self.assertEqual(claim, ("noroom", groups, users, order, row[0]))
                    self.assertIn(paper, strains[row[0]])
                    self.assertIs(holds(claim, paper), True)
        self.assertGreater(seen, 30)


if __name__ == "__main__":
    unittest.main()
