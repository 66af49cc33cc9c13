"""Promise 18: the checker."""

import inspect
import unittest

from farfiles import checker
from farfiles.checker import holds
from farfiles.judging import judge
from farfiles.strains import strains_at
from farfiles.trees import Tree
from stories import changed, drawn_stories, left_out, roomy_story, told_story, twice
from worlds_watched import Draw

THINGS = (None, True, False, 0, 1, -1, 7, "", "fits", "ann", (), [], {}, (None,), ["fits"], b"fits", (1, 2), ("d",), ((((),),),),
          {"fits": 1}, object(), Ellipsis, print, (0,) * 5, (0,) * 8)

# A tree in which all of this finds no room: the folder d has a limit, ann a share.
ROOMY = (
    (1, 0, "a0", 0, ("folder", ("d",))), (2, 0, "a0", 1, ("folder", ("d", "e"))), (3, 0, "a0", 2, ("file", ("f",))),
    (4, 0, "a0", 3, ("promise", ("f",), None, 5)), (5, 0, "a0", 3, ("put", 1, (1, 2, 3, 4, 5))),
    (6, 0, "a0", 4, ("limit", ("d",), 4)), (7, 0, "a0", 5, ("limit", ("d", "e"), 3)), (8, 0, "a1", 6, ("limit", (), 7)),
    (9, 0, "a1", 7, ("share", "ann", 6)), (10, 0, "a1", 8, ("share", "bob", 2)), (11, 0, "a0", 9, ("folder", ("g",))),
    (12, 0, "a0", 10, ("link", ("f",), ("d", "e", "f"))), (13, 0, "a0", 11, ("move", ("f",), ("d", "f"))),
    (14, 0, "a1", 12, ("rights", ("f",), "bob", "root", ("rw", "r", "r"))), (15, 0, "a1", 13, ("limit", (), 4)),
    (16, 0, "a1", 14, ("share", "ann", 0)), (17, 1, "a0", 15, ("promise", ("f",), 0, 3)),
    (18, 1, "a0", 16, ("link", ("f",), ("d", "f", "x"))), (19, 1, "a0", 17, ("move", ("f",), ("g", "f"))),
    (20, 1, "a0", 18, ("move", ("g",), ("d", "g"))),
)
# Of each AT that is answered with noroom who would have too much, and how much.
FULL = {
    12: ((("d",), 4, 5), (("d", "e"), 3, 5)), 13: ((("d",), 4, 5),), 14: (("bob", 2, 5),), 15: (((), 4, 5),), 16: (("ann", 0, 5),),
    17: (((), 7, 8), ("ann", 6, 8)), 20: ((("d",), 4, 5),),
}
USERS = ("ann", "root")


class CheckerTest(unittest.TestCase):
    def taken(self, claim, paper):
        self.assertIs(holds(claim, paper), True, (claim[0], paper))

    def left(self, claim, paper):
        self.assertIs(holds(claim, paper), False, (claim, paper))

    def only(self, claim, paper):
        """The claim is taken, by this paper alone, and none that is like it."""
        self.taken(claim, paper)
        for other in (*THINGS, (paper,), [paper], [*paper] if paper else ()):
            if other is not paper:
                self.left(claim, other)
        for other in (list(claim), claim + (None,), claim[:-1], claim[1:], (*claim[1:], claim[0]), claim + claim[1:]):
            self.left(other, paper)
        for at in range(len(claim)):
            for thing in THINGS:
                other = claim[:at] + (thing,) + claim[at + 1:]
                # No claim of ours has one of these, but for an empty one.
                if repr(thing) != repr(claim[at]) and not self.may_be(claim, at, thing):
                    self.left(other, paper)

    def may_be(self, claim, at, thing):
        """Whether the claim is as true with this in it: no groups, no rows told, another user."""
        if claim[0] == "newest" and at == 4:
            return thing in ("fits", "ann")
        return isinstance(thing, tuple) and thing == () and (at == 1 or (claim[0] == "fits" and at == 4))


class AnyThingTest(CheckerTest):
    def test_the_interface(self):
        self.assertEqual(str(inspect.signature(holds)), "(claim, paper)")
        self.assertEqual(holds.__module__, checker.__name__)
        self.assertIs(holds(paper=None, claim=("fits", (), ("ann",), (), ())), True)

    def test_things_of_any_kind(self):
        for claim in THINGS:
            for paper in THINGS:
                self.left(claim, paper)

    def test_other_words(self):
        rest = ((), ("ann",), (), ())
        for word in (*THINGS, "Fits", "fit", "fits ", "judge"):
            if word != "fits":
                self.left((word, *rest), None)


class FitsTest(CheckerTest):
    def test_fits_and_nothing_else(self):
        story = told_story()
        self.only(("fits", *story), None)

    def test_drawn(self):
        for story in drawn_stories(self, 30):
            self.taken(("fits", *story), None)
            self.left(("apart", *story), None)
            for found in (("order", 1), ("told", 0)):
                self.left(("apart", *story), found)

    def test_spoilt(self):
        groups, users, order, told = told_story()
        for at in range(len(told)):
            self.left(("fits", groups, users, order, changed(told, at, 3, ("told", None))), None)
            self.left(("fits", groups, users, order, changed(told, at, 0, 99)), None)
            self.left(("fits", groups, users, order, twice(told, at)), None)
        for at in range(len(order)):
            self.left(("fits", groups, users, changed(order, at, 2, "a7"), told), None)
            self.left(("fits", groups, users, left_out(order, at), told), None)
            self.left(("fits", groups, users, changed(order, at, 4, None), told), None)
        self.left(("fits", groups, users, [*order], told), None)
        self.left(("fits", groups, users, order, [*told]), None)
        self.left(("fits", groups, [*users], order, told), None)

    def test_a_true_for_a_one(self):
        order = ((1, 0, "a0", 0, ("list", ())),)
        self.taken(("fits", (), ("ann",), order, ()), None)
        self.left(("fits", (), ("ann",), ((True, 0, "a0", 0, ("list", ())),), ()), None)
        self.left(("fits", (), ("ann",), ((1, False, "a0", 0, ("list", ())),), ()), None)
        self.left(("fits", (), ("ann",), ((1, 0, "a0", 0, ["list", ()]),), ()), None)


class ApartTest(CheckerTest):
    def test_what_is_found_is_the_paper(self):
        groups, users, order, told = told_story()
        spoilt = changed(told, 6, 3, ("told", ()))
        self.only(("apart", groups, users, order, spoilt), ("told", 6))
        for paper in (("told", 7), ("told", 5), ("order", 6), ("told", "6"), ["told", 6], ("told",), ("told", 6, None), (6, "told")):
            self.left(("apart", groups, users, order, spoilt), paper)
        spoilt = changed(order, 1, 0, 1)
        self.taken(("apart", groups, users, spoilt, told), ("order", 1))
        for paper in (("order", True), ("order", 2), ("told", 1), ("order", (1,))):
            self.left(("apart", groups, users, spoilt, told), paper)

    def test_what_is_no_order(self):
        groups, users, order, told = told_story()
        for bad in (7, [], None, order + (None,), list(order)):
            for paper in (None, ("order", 1), ("told", 0), 0):
                self.left(("apart", groups, users, bad, told), paper)
                self.left(("apart", groups, users, order, bad), paper)

    def test_drawn(self):
        draw = Draw(5)
        for groups, users, order, told in drawn_stories(self, 30):
            spoilt = changed(order, draw.below(len(order)), 2, "a9")
            found = judge(groups, users, spoilt, told)
            self.taken(("apart", groups, users, spoilt, told), found)
            self.left(("fits", groups, users, spoilt, told), None)
            self.left(("apart", groups, users, spoilt, told), (found[0], found[1] + 1))


class NewestTest(CheckerTest):
    def sights(self, groups, users, order, user, path):
        tree = Tree(groups)
        found = []
        for _, tick, asker, _, deed in order:
            tree.do(tick, users[int(asker[1:])], deed)
            found.append(tree.sight(user, path))
        return found

    def test_behind_each_deed_from_there_on(self):
        for groups, users, order, _ in [told_story(), *drawn_stories(self, 15)]:
            for user in ("ann", "bob", "root", "nobody"):
                for path in ((), ("b",), ("a", "b"), ("d", "f"), ("none",)):
                    sights = self.sights(groups, users, order, user, path)
                    for at in sorted({0, len(order) // 2, len(order) - 3, len(order) - 1}):
                        for sight in (sights[-1], sights[at]):
                            claim = ("newest", groups, users, order, user, path, sight, order[at][0])
                            wanted = all(sight == other for other in sights[at:])
                            self.assertIs(holds(claim, None), wanted)

    def test_nothing_put_otherwise(self):
        groups, users, order, _ = told_story()
        sight = (("told", ("file", "ann", "root", ("rw", "r", "r"), 2)), ("told", (7, 8)))
        claim = ("newest", groups, users, order, "bob", ("d", "f"), sight, 10)
        self.only(claim, None)
        self.taken((*claim[:7], 16), None)
        for place in (9, 17, 0, -1, 10**9, "10", (10,), True, None):
            self.left((*claim[:7], place), None)
        for user in ("Bob", "", ("bob",), 1):
            self.left((*claim[:4], user, *claim[5:]), None)
        for path in (["d", "f"], ("d", "g"), ("d",), "d", ("d", "f", "x"), ("D", "f"), ("d",) * 7):
            self.left((*claim[:5], path, *claim[6:]), None)
        look, inner = sight
        for other in ([look, inner], (look,), (look, inner, inner), (inner, look), (look, ("told", [7, 8])), (look, ("told", (7, 9))),
                      (look, ("told", (7, 8), 0)), (("told", list(look[1])), inner), (look, ("lost", ("p0",)))):
            self.left((*claim[:6], other, *claim[7:]), None)

    def test_a_true_for_a_one(self):
        order = ((1, 0, "a0", 0, ("folder", ("d",))), (2, 0, "a0", 1, ("folder", ("d", "e"))))
        look = ("told", ("folder", "ann", "root", ("rw", "r", "r"), 1))
        sight = (look, ("told", (("e", "folder"),)))
        self.taken(("newest", (), ("ann",), order, "ann", ("d",), sight, 2), None)
        other = (("told", (*look[1][:4], True)), sight[1])
        self.left(("newest", (), ("ann",), order, "ann", ("d",), other, 2), None)
        order = ((1, 0, "a0", 0, ("folder", ("d",))),)
        self.taken(("newest", (), ("ann",), order, "x", ("y",), (("no", "nothere"),) * 2, 1), None)
        self.left(("newest", (), ("ann",), order, "x", ("y",), (("no", "nothere"),) * 2, True), None)

    def test_only_of_an_order_in_which_nothing_is_found(self):
        groups, users, order, _ = told_story()
        sights = self.sights(groups, users, order, "bob", ("d", "f"))
        last = order[-1][0]
        self.taken(("newest", groups, users, order, "bob", ("d", "f"), sights[-1], last), None)
        for at in range(len(order)):
            spoilt = changed(order, at, 3, 0 if at > 2 else 50)
            self.left(("newest", groups, users, spoilt, "bob", ("d", "f"), sights[-1], last), None)
        self.left(("newest", groups, users, (), "bob", ("d", "f"), sights[-1], 1), None)


class NoroomTest(CheckerTest):
    def test_of_folders_and_users(self):
        self.assertIsNone(judge((), USERS, ROOMY, ()))
        for at, *_ in ROOMY:
            claim = ("noroom", (), USERS, ROOMY, at)
            self.left(claim, None)
            for paper in sorted({paper for papers in FULL.values() for paper in papers}, key=repr):
                self.assertIs(holds(claim, paper), paper in FULL.get(at, ()), (at, paper))

    def test_nothing_put_otherwise(self):
        for at, papers in FULL.items():
            for paper in papers:
                claim = ("noroom", (), USERS, ROOMY, at)
                who, limit, use = paper
                for other in ((who, limit, use + 1), (who, limit - 1, use), (who, limit + 1, use), (who, use, limit), (who, limit),
                              (who, limit, use, 0), [who, limit, use], ("x", limit, use), (("x",), limit, use), (None, limit, use),
                              (who, None, use), (who, limit, None), (list(who), limit, use), ((who,), limit, use), (who, str(limit), use)):
                    self.left(claim, other)
        self.only(("noroom", (), USERS, ROOMY, 13), (("d",), 4, 5))

    def test_a_true_for_a_one(self):
        order = ((1, 0, "a0", 0, ("file", ("f",))), (2, 0, "a0", 1, ("limit", (), 1)), (3, 0, "a0", 2, ("promise", ("f",), None, 2)),
                 (4, 0, "a0", 3, ("limit", (), 0)), (5, 0, "a0", 4, ("promise", ("f",), None, 1)))
        for at, limit, use in ((3, 1, 2), (5, 0, 1)):
            self.taken(("noroom", (), ("root",), order, at), ((), limit, use))
            self.left(("noroom", (), ("root",), order, at), ((), bool(limit), use))
        self.left(("noroom", (), ("root",), order, 5), ((), 0, True))
        self.left(("noroom", (), ("root",), order, True), ((), 1, 2))

    def test_what_is_just_full_is_not_too_full(self):
        order = (
            (1, 0, "a0", 0, ("folder", ("d",))), (2, 0, "a0", 1, ("file", ("d", "f"))), (3, 0, "a0", 2, ("limit", ("d",), 3)),
            (4, 0, "a0", 3, ("share", "root", 3)), (5, 0, "a0", 4, ("limit", (), 2)), (6, 0, "a0", 5, ("promise", ("d", "f"), None, 3)),
        )
        self.taken(("noroom", (), ("root",), order, 6), ((), 2, 3))
        self.left(("noroom", (), ("root",), order, 6), (("d",), 3, 3))
        self.left(("noroom", (), ("root",), order, 6), ("root", 3, 3))

    def test_a_path_as_it_would_be(self):
        order = (
            (1, 0, "a0", 0, ("folder", ("a",))), (2, 0, "a0", 1, ("folder", ("a", "b"))), (3, 0, "a0", 2, ("folder", ("c",))),
            (4, 0, "a0", 3, ("file", ("f",))), (5, 0, "a0", 4, ("promise", ("f",), None, 2)),
            (6, 0, "a0", 4, ("put", 1, (1, 2))), (7, 0, "a0", 5, ("limit", ("c",), 1)), (8, 0, "a0", 6, ("link", ("f",), ("a", "b", "f"))),
            (9, 0, "a0", 7, ("move", ("a", "b"), ("c", "b"))), (10, 0, "a0", 8, ("limit", ("a", "b"), 2)),
            (11, 0, "a0", 9, ("move", ("a",), ("c", "a"))), (12, 0, "a0", 10, ("limit", ("c",), None)),
            (13, 0, "a0", 11, ("move", ("a",), ("c", "a"))), (14, 0, "a0", 12, ("promise", ("c", "a", "b", "f"), None, 1)),
        )
        for at, paper in ((9, (("c",), 1, 2)), (11, (("c",), 1, 2)), (14, (("c", "a", "b"), 2, 3))):
            self.taken(("noroom", (), ("root",), order, at), paper)
        self.left(("noroom", (), ("root",), order, 14), (("a", "b"), 2, 3))

    def test_only_of_an_order_in_which_nothing_is_found(self):
        paper = (("d",), 4, 5)
        self.taken(("noroom", (), USERS, ROOMY, 13), paper)
        for at in range(len(ROOMY)):
            self.left(("noroom", (), USERS, changed(ROOMY, at, 2, "a5"), 13), paper)
            self.left(("noroom", (), USERS, twice(ROOMY, at), 13), paper)

    def test_drawn(self):
        seen = 0
        for seed in range(10):
            (groups, users, order), strains = roomy_story(seed, 80)
            for row in order:
                claim = ("noroom", groups, users, order, row[0])
                if row[0] not in strains:
                    self.left(claim, ((), 0, 1))
                    continue
                self.assertNotEqual(strains[row[0]], [])
                self.assertCountEqual(strains_at(groups, users, order, row[0]), strains[row[0]])
                for who, limit, use in strains[row[0]]:
                    seen += 1
                    self.taken(claim, (who, limit, use))
                    self.left(claim, (who, limit, use + 1))
        self.assertGreater(seen, 40)


if __name__ == "__main__":
    unittest.main()
