"""Promise 6: the deeds of a Tree by which folders and files come, go and are told."""

import unittest

from farfiles.trees import Tree
from gardens import DONE, Garden, path

GROUPS = (("root", ("gil",)), ("staff", ("ann", "bob")))
ALL = ("rw", "rw", "rw")
NEW = ("rw", "r", "r")


class GardenCase(unittest.TestCase):
    def setUp(self):
        self.garden = Garden(self, GROUPS)

    def close(self, where, rights=("rw", "", "")):
        """None but its owner, ann, may do anything to it."""
        self.garden.done("root", "rights", path(where), "ann", "root", rights)


class TopTest(GardenCase):
    def test_the_top(self):
        self.garden.told(("folder", "root", "root", ALL, 0), "zed", "look", ())
        self.garden.told((), "zed", "list", ())
        self.garden.told((0, None), "zed", "use", ())
        sight = (("told", ("folder", "root", "root", ALL, 0)), ("told", ()))
        self.assertEqual(Tree().sight("ann", ()), sight)

    def test_all_may_write_in_it(self):
        self.garden.done("zed", "file", ("a",))
        self.garden.told(("file", "zed", "root", NEW, 0), "ann", "look", ("a",))


class MakeTest(GardenCase):
    def test_what_is_made(self):
        for word in ("folder", "file"):
            self.garden.done("ann", word, (word,))
            self.garden.told((word, "ann", "root", NEW, 0), "bob", "look", (word,))
        self.garden.told((("file", "file"), ("folder", "folder")), "bob", "list", ())

    def test_its_group_is_its_folders(self):
        self.garden.make("ann", "f/")
        self.garden.done("ann", "rights", ("f",), "ann", "staff", ("rw", "rw", "r"))
        self.garden.done("bob", "file", ("f", "x"))
        self.garden.told(("file", "bob", "staff", NEW, 0), "ann", "look", ("f", "x"))

    def test_six_deep_at_most(self):
        names = ("a", "b", "c", "d", "e", "f")
        for many in range(1, 6):
            self.garden.done("ann", "folder", names[:many])
        self.garden.done("ann", "file", names)
        self.garden.told((("f", "file"),), "ann", "list", names[:5])

    def test_words_in_their_order(self):
        for word in ("folder", "file"):
            garden = Garden(self, GROUPS)
            garden.make("ann", "d/", "d/e/", "x", "d/in", "open/")
            garden.no("stands", "ann", word, ())
            garden.no("nothere", "ann", word, ("no", "new"))
            garden.no("nofolder", "ann", word, ("x", "new"))
            garden.no("nofolder", "ann", word, ("x", "y", "new"))
            garden.no("nofolder", "zed", word, ("d", "in", "new"))
            garden.no("noright", "zed", word, ("d", "new"))
            # noright goes ahead of stands, but not for who may write.
            garden.no("noright", "zed", word, ("d", "in"))
            garden.no("stands", "ann", word, ("d", "in"))
            garden.no("stands", "ann", word, ("d", "e"))
            garden.done("ann", "rights", ("d",), "ann", "root", ("rw", "w", ""))
            # Along the way "r" is asked for, of the last folder only "w".
            garden.no("noright", "zed", word, ("d", "e", "new"))
            garden.no("noright", "zed", word, ("d", "no", "new"))
            garden.no("noright", "gil", word, ("d", "e", "new"))
            garden.done("gil", word, ("d", "new"))


class LinkTest(GardenCase):
    def test_one_more_name_of_it(self):
        self.garden.make("ann", "d/", "x")
        self.garden.done("ann", "rights", ("d",), "ann", "root", ALL)
        self.garden.done("bob", "link", ("x",), ("d", "y"))
        self.garden.write("ann", "x", (1, 2))
        self.assertEqual(self.garden.cells("d/y"), (1, 2))
        self.garden.told(("file", "ann", "root", NEW, 2), "bob", "look", ("d", "y"))
        self.garden.done("ann", "strike", ("x",))
        self.assertEqual(self.garden.cells("d/y"), (1, 2))
        self.garden.done("ann", "file", ("x",))
        self.assertEqual(self.garden.cells("x"), ())

    def test_words_in_their_order(self):
        garden = self.garden
        garden.make("ann", "d/", "x", "y")
        garden.no("nothere", "ann", "link", ("no",), ())
        garden.no("nofolder", "ann", "link", ("x", "no"), ())
        garden.no("nofile", "ann", "link", ("d",), ())
        garden.no("nofile", "ann", "link", (), ())
        garden.no("stands", "ann", "link", ("x",), ())
        garden.no("nothere", "ann", "link", ("x",), ("no", "z"))
        garden.no("nofolder", "ann", "link", ("x",), ("y", "z"))
        garden.no("noright", "zed", "link", ("x",), ("d", "z"))
        garden.no("stands", "ann", "link", ("x",), ("y",))
        garden.no("stands", "ann", "link", ("x",), ("x",))
        garden.make("ann", "d/in")
        garden.no("noright", "zed", "link", ("x",), ("d", "in"))
        self.close("d")
        garden.no("noright", "zed", "link", ("d", "in"), ("z",))

    def test_no_right_to_the_file_is_asked(self):
        self.garden.make("ann", "x")
        self.close("x", ("", "", ""))
        self.garden.done("zed", "link", ("x",), ("z",))


class MoveTest(GardenCase):
    def test_files_and_folders(self):
        garden = self.garden
        garden.make("ann", "d/", "d/e/", "d/e/x", "y", "f/")
        garden.write("ann", "d/e/x", (1, 2, 3))
        garden.done("ann", "move", ("d", "e"), ("f", "g"))
        self.assertEqual(garden.names("d"), [])
        self.assertEqual(garden.cells("f/g/x"), (1, 2, 3))
        garden.done("ann", "move", ("y",), ("f", "g", "y"))
        self.assertEqual(garden.names("f/g"), ["x", "y"])
        garden.done("ann", "move", ("f",), ("h",))
        self.assertEqual(garden.names(""), ["d", "h"])
        garden.done("ann", "move", ("h",), ("d", "h"))
        self.assertEqual(garden.cells("d/h/g/x"), (1, 2, 3))
        garden.told(("folder", "ann", "root", NEW, 2), "bob", "look", ("d", "h", "g"))

    def test_words_in_their_order(self):
        garden = self.garden
        garden.make("ann", "d/", "d/e/", "x", "y", "d/in")
        garden.no("top", "zed", "move", (), ())
        garden.no("top", "zed", "move", (), ("a", "b"))
        garden.no("nothere", "zed", "move", ("no", "n"), ())
        garden.no("nofolder", "zed", "move", ("x", "n"), ())
        garden.no("noright", "zed", "move", ("d", "no"), ())
        garden.no("nothere", "ann", "move", ("d", "no"), ())
        garden.no("ring", "ann", "move", ("d",), ("d", "z"))
        garden.no("ring", "ann", "move", ("d",), ("d", "no", "no", "no"))
        garden.no("ring", "ann", "move", ("d",), ("d", "e"))
        garden.no("ring", "ann", "move", ("d", "e"), ("d", "e", "z"))
        # Only a folder can be in itself; NEW must be longer.
        garden.no("nofolder", "ann", "move", ("x",), ("x", "z"))
        garden.no("stands", "ann", "move", ("d",), ("d",))
        garden.no("stands", "ann", "move", ("d",), ())
        garden.no("nothere", "ann", "move", ("x",), ("no", "z"))
        garden.no("nofolder", "ann", "move", ("x",), ("y", "z"))
        garden.no("noright", "zed", "move", ("x",), ("d", "z"))
        garden.no("noright", "zed", "move", ("x",), ("d", "in"))
        garden.no("stands", "ann", "move", ("x",), ("d", "in"))
        garden.no("stands", "ann", "move", ("d", "e"), ("d", "in"))
        garden.done("ann", "move", ("d", "e"), ("e",))

    def test_no_ring_of_names_that_are_alike(self):
        self.garden.make("ann", "d/", "dd/", "e/", "e/d/")
        self.garden.done("ann", "move", ("d",), ("dd", "d"))
        self.garden.done("ann", "move", ("dd", "d"), ("e", "d", "d"))

    def test_deep(self):
        garden = self.garden
        garden.make("ann", "a/", "a/b/", "a/b/c/", "a/b/c/x", "a/b/y", "p/", "p/q/", "p/q/r/")
        garden.make("ann", "p/q/r/in", "z")
        garden.no("deep", "ann", "move", ("a",), ("p", "q", "r", "s"))
        garden.no("stands", "ann", "move", ("a",), ("p", "q", "r", "in"))
        garden.done("ann", "move", ("a", "b", "c", "x"), ("x",))
        garden.done("ann", "move", ("a",), ("p", "q", "r", "s"))
        garden.make("ann", "m/", "m/n/", "m/n/o/")
        garden.no("deep", "ann", "move", ("m",), ("p", "q", "r", "s", "m"))
        garden.done("ann", "strike", ("m", "n", "o"))
        garden.done("ann", "move", ("m",), ("p", "q", "r", "s", "m"))
        self.assertEqual(garden.names("p/q/r/s/m"), ["n"])
        garden.done("ann", "move", ("z",), ("p", "q", "r", "s", "m", "z"))

    def test_the_folder_it_comes_from_must_be_writable(self):
        self.garden.make("ann", "d/", "d/x")
        self.garden.no("noright", "bob", "move", ("d", "x"), ("x",))
        self.garden.done("ann", "rights", ("d",), "ann", "staff", ("rw", "w", ""))
        self.garden.done("bob", "move", ("d", "x"), ("x",))


class StrikeTest(GardenCase):
    def test_strike(self):
        self.garden.make("ann", "d/", "d/x")
        self.garden.no("full", "ann", "strike", ("d",))
        self.garden.done("ann", "strike", ("d", "x"))
        self.garden.done("ann", "strike", ("d",))
        self.assertEqual(self.garden.names(""), [])
        self.garden.no("nothere", "ann", "read", ("d",))

    def test_words_in_their_order(self):
        garden = self.garden
        garden.make("ann", "d/", "d/e/", "d/e/x", "x")
        garden.no("top", "ann", "strike", ())
        garden.no("nothere", "ann", "strike", ("no", "n"))
        garden.no("nofolder", "ann", "strike", ("x", "n"))
        garden.no("noright", "zed", "strike", ("d", "no"))
        garden.no("noright", "zed", "strike", ("d", "e"))
        garden.no("nothere", "ann", "strike", ("d", "no"))
        garden.no("full", "ann", "strike", ("d", "e"))

    def test_nobody_needs_to_own_it(self):
        self.garden.make("ann", "x")
        self.garden.done("zed", "strike", ("x",))


class CutTest(GardenCase):
    def test_cut(self):
        self.garden.make("ann", "x")
        self.garden.write("ann", "x", (5, -6, 7))
        self.garden.done("ann", "cut", ("x",), 3)
        self.garden.done("ann", "cut", ("x",), 2)
        self.assertEqual(self.garden.cells("x"), (5, -6))
        self.garden.done("ann", "cut", ("x",), 0)
        self.assertEqual(self.garden.cells("x"), ())

    def test_words_in_their_order(self):
        garden = self.garden
        garden.make("ann", "d/", "x")
        garden.no("nothere", "zed", "cut", ("no",), 9)
        garden.no("nofile", "ann", "cut", ("d",), 9)
        garden.no("nofile", "ann", "cut", (), 0)
        garden.no("noright", "zed", "cut", ("x",), 9)
        garden.no("noplace", "ann", "cut", ("x",), 1)


class RightsTest(GardenCase):
    def test_rights(self):
        garden = self.garden
        garden.make("ann", "x")
        garden.no("noright", "bob", "rights", ("x",), "ann", "root", ALL)
        garden.no("noright", "ann", "rights", ("x",), "bob", "root", ALL)
        garden.no("nothere", "zed", "rights", ("no",), "ann", "root", ALL)
        garden.done("ann", "rights", ("x",), "ann", "none", ("", "r", "w"))
        garden.told(("file", "ann", "none", ("", "r", "w"), 0), "bob", "look", ("x",))
        garden.done("root", "rights", ("x",), "bob", "none", ALL)
        garden.no("noright", "ann", "rights", ("x",), "ann", "none", ALL)
        garden.done("bob", "rights", ("x",), "bob", "staff", ALL)

    def test_of_the_top(self):
        self.garden.no("noright", "ann", "rights", (), "ann", "root", ALL)
        self.garden.done("root", "rights", (), "ann", "staff", ("rw", "r", ""))
        self.garden.no("noright", "zed", "file", ("x",))
        self.garden.no("noright", "zed", "read", ("x",))
        self.garden.no("noright", "bob", "file", ("x",))
        self.garden.no("nothere", "bob", "read", ("x",))
        self.garden.done("ann", "file", ("x",))

    def test_the_owner_goes_by_the_first_text_alone(self):
        garden = self.garden
        garden.make("ann", "x")
        garden.done("ann", "rights", ("x",), "ann", "staff", ("", "rw", "rw"))
        garden.no("noright", "ann", "read", ("x",))
        garden.told((), "bob", "read", ("x",))
        garden.done("ann", "rights", ("x",), "ann", "staff", ("r", "", "rw"))
        garden.told((), "ann", "read", ("x",))
        garden.no("noright", "bob", "read", ("x",))
        garden.told((), "zed", "read", ("x",))
        garden.done("ann", "rights", ("x",), "ann", "staff", ("", "w", ""))
        garden.no("noright", "ann", "cut", ("x",), 0)
        garden.done("bob", "cut", ("x",), 0)
        garden.no("noright", "zed", "cut", ("x",), 0)
        garden.done("root", "cut", ("x",), 0)


class TellTest(GardenCase):
    def setUp(self):
        super().setUp()
        self.garden.make("ann", "d/", "d/b", "d/a/", "d/c", "x")
        self.garden.write("ann", "x", (3, 1, 2))

    def test_read(self):
        garden = self.garden
        garden.told((3, 1, 2), "zed", "read", ("x",))
        garden.no("nofile", "zed", "read", ("d",))
        garden.no("nofolder", "zed", "read", ("x", "y"))
        garden.no("nothere", "zed", "read", ("y",))
        self.close("x")
        garden.no("noright", "zed", "read", ("x",))
        garden.told((3, 1, 2), "root", "read", ("x",))

    def test_list(self):
        garden = self.garden
        garden.told((("a", "folder"), ("b", "file"), ("c", "file")), "zed", "list", ("d",))
        garden.no("nofolder", "zed", "list", ("x",))
        garden.no("nothere", "zed", "list", ("y",))
        self.close("d", ("r", "w", "w"))
        garden.no("noright", "zed", "list", ("d",))
        garden.no("noright", "zed", "list", ("d", "a"))
        garden.no("noright", "zed", "list", ("d", "no"))
        garden.told((("a", "folder"), ("b", "file"), ("c", "file")), "ann", "list", ("d",))

    def test_look(self):
        garden = self.garden
        self.close("x", ("", "", ""))
        garden.told(("file", "ann", "root", ("", "", ""), 3), "zed", "look", ("x",))
        garden.told(("folder", "ann", "root", NEW, 3), "zed", "look", ("d",))
        garden.no("nofolder", "zed", "look", ("x", "y"))
        garden.no("nothere", "zed", "look", ("d", "y"))

    def test_sight(self):
        garden = self.garden
        for user in ("ann", "zed"):
            for where in ("", "d", "d/a", "x", "x/y", "no", "d/no/z"):
                look = garden.do(user, "look", path(where))
                word = "list" if look[1][0] == "folder" else "read"
                inner = garden.do(user, word, path(where)) if look[0] == "told" else look
                garden.told((look, inner), user, "sight", path(where))
                self.assertEqual(garden.tree.sight(user, path(where)), (look, inner))
                garden.told(((look, inner), 7), user, "lease", path(where), 7)
        self.close("x")
        self.assertEqual(garden.tree.sight("zed", ("x",))[1], ("no", "noright"))
        self.assertEqual(garden.tree.sight("zed", ("x",))[0][0], "told")
        self.close("d")
        self.assertEqual(garden.tree.sight("zed", ("d",))[1], ("no", "noright"))
        self.assertEqual(garden.tree.sight("zed", ("d", "a")), (("no", "noright"),) * 2)

    def test_lease_and_back(self):
        self.garden.tick = 9
        answer = self.garden.do("zed", "lease", ("x",), 30)
        self.assertEqual(answer, ("told", (self.garden.tree.sight("zed", ("x",)), 39)))
        self.garden.done("zed", "back", ("x",))
        self.garden.done("zed", "back", ("no", "thing"))

    def test_what_only_tells_changes_nothing(self):
        sight = self.garden.tree.sight("root", ())
        for word in ("read", "list", "look", "sight", "use"):
            self.garden.do("zed", word, ("x",))
        self.assertEqual(self.garden.tree.sight("root", ()), sight)


class BothNamesTest(unittest.TestCase):
    def test_arguments_by_name(self):
        tree = Tree(groups=GROUPS)
        self.assertEqual(tree.do(deed=("file", ("x",)), user="ann", tick=3), DONE)
        look = ("told", ("file", "ann", "root", NEW, 0))
        self.assertEqual(tree.sight(path=("x",), user="bob"), (look, ("told", ())))


if __name__ == "__main__":
    unittest.main()
