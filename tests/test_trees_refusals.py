"""Promises 2, 6 and 7: what a Tree refuses, in which order, and that it changes nothing."""

import inspect
import unittest

from farfiles.errors import FarError, NoDeed, NoGroups, NoTick, NoWord
from farfiles.trees import Tree

GOOD_DEEDS = (
    ("folder", ("a",)), ("file", ()), ("link", ("a",), ("b",)), ("move", ("a",), ("b", "c")),
    ("strike", ("a",)), ("cut", ("a",), 0), ("cut", ("a",), 10**59),
    ("rights", ("a",), "ann", "staff", ("rw", "", "r")),
    ("read", ("a",)), ("list", ()), ("look", ("a", "b", "c", "d", "e", "f")), ("sight", ()),
    ("limit", (), 0), ("limit", ("a",), None), ("share", "ann", 7), ("share", "ann", None),
    ("promise", ("a",), None, 1), ("promise", ("a",), 0, 24), ("put", 0, (1,)),
    ("put", 1, (-5, 10**59) * 12), ("use", ()), ("held", "ann"), ("snap", (), "s"),
    ("old", "s", ()), ("lease", (), 1), ("lease", ("a",), 30), ("back", ("a",)),
)

NO_PATHS = (["a"], "a", None, 7, ("A",), ("a", 7), ("a", ""), ("a",) * 7, ("a", ("b",)), {})
NO_COUNTS = (-1, True, False, "1", (), [], {}, (1,))
NO_WORDS = ("", "Ann", "a b", "abcdefghi", 7, None, True, ("ann",), ["ann"], {}, b"ann")

BAD_DEEDS = (
    None, True, 7, "", "read", (), [], {}, b"read", ["read", ("a",)], ("read",), ("read", ("a",), 1),
    ("Read", ("a",)), ("", ("a",)), (("read",), ("a",)), (7, ("a",)), (None, ()), ([], ()),
    ("write", ("a",), None, (1,)), ("glance", ("read", ("a",))), ("tick", ("a",)),
    ("folder",), ("file", ("a",), ("b",)), ("link", ("a",)), ("move", ("a",), ("b",), ("c",)),
    ("rights", ("a",), "ann", "staff"), ("rights", ("a",), "ann", "staff", ["rw", "", "r"]),
    ("rights", ("a",), "ann", "staff", ("rw", "", "x")), ("rights", ("a",), "ann", ("rw", "", "r"), "s"),
    ("promise", ("a",), None, 0), ("promise", ("a",), None, 25), ("promise", ("a",), None, None),
    ("promise", ("a",), None), ("put", 1), ("put", None, (1,)), ("put", 1, ()), ("put", 1, (1,) * 25),
    ("put", 1, [1]), ("put", 1, (True,)), ("put", 1, (1, None)), ("put", 1, 1), ("put", 1, ("1",)),
    ("put", 1, ((1,),)), ("cut", ("a",), None), ("lease", (), 0), ("lease", (), 31), ("lease", (), None),
    ("lease", (), True), ("lease", ()), ("back",), ("old", (), "s"), ("snap", "s", ()), ("held",), ("held", ()),
)


def more_bad_deeds():
    for thing in NO_PATHS:
        for word in ("folder", "file", "strike", "read", "list", "look", "sight", "use", "back"):
            yield (word, thing)
        for word in ("link", "move"):
            yield (word, thing, ("b",))
            yield (word, ("b",), thing)
        yield from (("cut", thing, 0), ("limit", thing, None), ("promise", thing, None, 1))
        yield from (("snap", thing, "s"), ("old", "s", thing), ("lease", thing, 5))
        yield ("rights", thing, "ann", "staff", ("", "", ""))
    for thing in NO_COUNTS:
        yield from (("cut", ("a",), thing), ("limit", ("a",), thing), ("share", "ann", thing))
        yield from (("promise", ("a",), thing, 1), ("put", thing, (1,)), ("lease", (), thing))
        yield ("promise", ("a",), 0, thing)
    for thing in NO_WORDS:
        yield from (("share", thing, 1), ("held", thing), ("snap", (), thing), ("old", thing, ()))
        yield ("rights", (), thing, "staff", ("", "", ""))
        yield ("rights", (), "ann", thing, ("", "", ""))


class RefusalsTest(unittest.TestCase):
    def refused(self, call, refusal, field, thing):
        with self.assertRaises(FarError) as caught:
            call()
        self.assertIs(type(caught.exception), refusal)
        self.assertIs(getattr(caught.exception, field), thing)

    def test_the_interface(self):
        wanted = {"__init__": "(self, groups=())", "do": "(self, tick, user, deed)",
                  "sight": "(self, user, path)"}
        for name, text in wanted.items():
            self.assertEqual(str(inspect.signature(vars(Tree)[name])), text)

    def test_groups(self):
        for thing in (None, True, 7, "", [], {}, (("staff", ["ann"]),), (("b", ()), ("a", ()))):
            self.refused(lambda: Tree(thing), NoGroups, "groups", thing)
            self.refused(lambda: Tree(groups=thing), NoGroups, "groups", thing)

    def test_deeds_that_are_formed_well(self):
        for deed in GOOD_DEEDS:
            with self.subTest(deed=deed):
                self.assertIn(Tree().do(0, "ann", deed)[0], ("done", "told", "no"))

    def test_no_deed(self):
        tree = Tree()
        for deed in [*BAD_DEEDS, *more_bad_deeds()]:
            with self.subTest(deed=deed):
                self.refused(lambda: tree.do(0, "ann", deed), NoDeed, "deed", deed)

    def test_no_tick(self):
        tree = Tree()
        for tick in (-1, True, False, None, "0", (), [0], {}):
            self.refused(lambda: tree.do(tick, "Ann", None), NoTick, "when", tick)
        tree.do(5, "ann", ("file", ("x",)))
        self.refused(lambda: tree.do(4, "Ann", None), NoTick, "when", 4)
        tree.do(5, "ann", ("file", ("y",)))
        # Whatever the answer was.
        self.assertEqual(tree.do(9, "ann", ("file", ("y",))), ("no", "stands"))
        self.refused(lambda: tree.do(8, "ann", ("file", ("z",))), NoTick, "when", 8)
        tree.do(10**59, "ann", ("file", ("z",)))

    def test_no_word(self):
        tree = Tree()
        for user in NO_WORDS:
            self.refused(lambda: tree.do(0, user, None), NoWord, "word", user)
            self.refused(lambda: tree.sight(user, None), NoWord, "word", user)

    def test_sight_of_no_path(self):
        for thing in NO_PATHS:
            self.refused(lambda: Tree().sight("ann", thing), NoDeed, "deed", thing)

    def test_what_is_refused_changes_nothing(self):
        tree, other = Tree(), Tree()
        rows = [(0, "ann", ("file", ("x",))), (1, "ann", ("promise", ("x",), None, 2))]
        for row in rows:
            tree.do(*row)
            other.do(*row)
        for tick, user, deed in ((99, "Ann", ("file", ("z",))), (99, "ann", ("put", 1, [1, 2])),
                                 (99, "ann", ("put", 1, ())), (0, "ann", ("strike", ("x",)))):
            with self.assertRaises(FarError):
                tree.do(tick, user, deed)
        # The refused tick 99 would have let the promise lapse.
        for row in ((2, "ann", ("use", ())), (41, "ann", ("put", 1, (7, 8))), (41, "ann", ("read", ("x",))),
                    (41, "ann", ("promise", ("x",), None, 1))):
            self.assertEqual(tree.do(*row), other.do(*row))
        self.assertEqual(tree.do(41, "ann", ("read", ("x",))), ("told", (7, 8)))

    def test_no_deed_wherever_its_way_ends(self):
        """A way that ends at a name doesn't let pass what stands behind it."""
        tree = Tree((("staff", ("ann",)),))
        for deed in (("folder", ("d",)), ("file", ("d", "x")), ("folder", ("e",)), ("snap", (), "s"),
                     ("rights", ("e",), "ann", "staff", ("", "", ""))):
            self.assertEqual(tree.do(0, "ann" if deed[0] != "snap" else "root", deed), ("done",))
        ways = (("d",), ("d", "x"), ("none",), ("d", "none"), ("e",), ("e", "x"), ("d", "x", "y"), ())
        for user in ("root", "ann", "bob"):
            for way in ways:
                good = (("read", way), ("list", way), ("look", way), ("old", "s", way), ("old", "none", way))
                told = [tree.do(0, user, deed) for deed in good]
                for bad in (7, None, True, "", "Ab", "a b", "abcdefghi", "x\n", ("X",), ["x"], {}, b"x"):
                    for path in (way + (bad,), (bad,) + way, way + ("x", bad), way + (bad, "x")):
                        for deed in (("read", path), ("list", path), ("look", path),
                                     ("old", "s", path), ("old", "none", path)):
                            self.refused(lambda: tree.do(0, user, deed), NoDeed, "deed", deed)
                    for deed in (("old", bad, way), ("read", way, bad), ("look", bad), (bad, way), (bad, "s", way)):
                        self.refused(lambda: tree.do(0, user, deed), NoDeed, "deed", deed)
                for path in (list(way), way + ("x",) * 7, "d", {"d": 1}):
                    deed = ("look", path)
                    self.refused(lambda: tree.do(0, user, deed), NoDeed, "deed", deed)
                self.assertEqual([tree.do(0, user, deed) for deed in good], told)

    def test_refused_at_every_call_whatever_was_handed_in_ahead(self):
        tree = Tree()
        deed = ("list", ())
        for _ in range(3):
            self.assertEqual(tree.do(5, "ann", deed), ("told", ()))
            self.refused(lambda: tree.do(4, "ann", deed), NoTick, "when", 4)
            self.refused(lambda: tree.do(True, "ann", deed), NoTick, "when", True)
            self.refused(lambda: tree.do(5, "Ann", deed), NoWord, "word", "Ann")
            self.refused(lambda: tree.do(5, None, deed), NoWord, "word", None)
            for bad in (["list", ()], ("list", []), ("list",), ("list", (), ())):
                self.refused(lambda: tree.do(5, "ann", bad), NoDeed, "deed", bad)

    def test_a_deed_that_only_tells_lets_ticks_go_on(self):
        tree = Tree()
        tree.do(0, "ann", ("file", ("x",)))
        tree.do(0, "ann", ("promise", ("x",), None, 2))
        for at, deed in enumerate((("read", ("x",)), ("list", ()), ("look", ("none",)), ("old", "s", ()))):
            tree.do(50 + at, "ann", deed)
            self.refused(lambda: tree.do(49 + at, "ann", deed), NoTick, "when", 49 + at)
        self.assertEqual(tree.do(53, "ann", ("use", ())), ("told", (0, None)))
        self.assertEqual(tree.do(53, "ann", ("put", 1, (1, 2))), ("no", "late"))

    def test_what_is_told_is_the_askers_own(self):
        tree = Tree()
        told = tree.do(0, "ann", ("list", ()))
        tree.do(0, "ann", ("file", ("x",)))
        self.assertEqual(told, ("told", ()))

    def test_two_trees_are_two(self):
        one, two = Tree(), Tree()
        one.do(7, "ann", ("file", ("x",)))
        self.assertEqual(two.do(0, "ann", ("list", ())), ("told", ()))


if __name__ == "__main__":
    unittest.main()
