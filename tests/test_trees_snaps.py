"""Promise 8: snapshots, and what old tells of them."""

import unittest

from gardens import Garden

GROUPS = (("root", ("gil",)), ("staff", ("ann", "bob")))


class SnapTest(unittest.TestCase):
    def setUp(self):
        self.garden = Garden(self, GROUPS)
        self.garden.make("ann", "d/", "d/e/", "d/e/x", "d/y", "out")
        self.garden.done("ann", "link", ("out",), ("d", "in"))
        self.garden.write("ann", "d/e/x", (1, 2, 3))
        self.garden.write("ann", "d/y", (4,))
        self.garden.done("ann", "snap", ("d",), "s")
        self.listed = (("e", "folder"), ("in", "file"), ("y", "file"))

    def check_old(self):
        garden = self.garden
        garden.told(self.listed, "zed", "old", "s", ())
        garden.told((("x", "file"),), "zed", "old", "s", ("e",))
        garden.told((1, 2, 3), "zed", "old", "s", ("e", "x"))
        garden.told((4,), "zed", "old", "s", ("y",))
        garden.told((), "zed", "old", "s", ("in",))

    def test_it_is_as_it_was(self):
        self.check_old()

    def test_whatever_becomes_of_the_folder(self):
        garden = self.garden
        garden.write("ann", "d/e/x", (7, 7), 1)
        self.check_old()
        garden.done("ann", "cut", ("d", "y"), 0)
        garden.write("ann", "out", (9,))
        self.check_old()
        garden.done("ann", "strike", ("d", "e", "x"))
        garden.done("ann", "strike", ("d", "e"))
        garden.make("ann", "d/new", "d/more/")
        self.check_old()
        garden.done("ann", "rights", ("d", "y"), "ann", "root", ("", "", ""))
        garden.done("ann", "rights", ("d",), "ann", "root", ("", "", ""))
        garden.done("ann", "move", ("d",), ("f",))
        self.check_old()
        garden.done("root", "strike", ("f", "y"))
        garden.tick = 10**9
        self.check_old()

    def test_by_the_rights_of_then(self):
        garden = self.garden
        garden.done("ann", "rights", ("d", "y"), "ann", "staff", ("rw", "", "r"))
        garden.done("ann", "rights", ("d", "e"), "ann", "root", ("rw", "r", ""))
        garden.done("ann", "snap", ("d",), "t")
        garden.done("ann", "rights", ("d", "y"), "ann", "root", ("rw", "rw", "rw"))
        garden.done("ann", "rights", ("d", "e"), "ann", "root", ("rw", "rw", "rw"))
        garden.told((4,), "zed", "old", "t", ("y",))
        garden.no("noright", "bob", "old", "t", ("y",))
        garden.told((4,), "ann", "old", "t", ("y",))
        garden.no("noright", "zed", "old", "t", ("e",))
        garden.no("noright", "zed", "old", "t", ("e", "x"))
        garden.told((1, 2, 3), "gil", "old", "t", ("e", "x"))
        garden.told((1, 2, 3), "root", "old", "t", ("e", "x"))

    def test_the_folder_is_the_top_of_it(self):
        garden = self.garden
        garden.no("nothere", "ann", "old", "s", ("d",))
        garden.no("nothere", "ann", "old", "s", ("e", "no"))
        garden.no("nofolder", "ann", "old", "s", ("y", "no"))
        garden.no("nosnap", "ann", "old", "no", ("e",))
        garden.done("ann", "rights", ("d",), "ann", "root", ("", "w", "w"))
        garden.done("root", "snap", ("d",), "t")
        garden.no("noright", "ann", "old", "t", ())
        garden.no("noright", "zed", "old", "t", ("no",))

    def test_words_in_their_order(self):
        garden = self.garden
        garden.no("nothere", "zed", "snap", ("no",), "s")
        garden.no("nofolder", "zed", "snap", ("out",), "s")
        garden.no("noright", "zed", "snap", ("d",), "s")
        garden.no("noright", "gil", "snap", (), "u")
        garden.no("stands", "ann", "snap", ("d",), "s")
        garden.no("stands", "root", "snap", (), "s")
        garden.done("root", "snap", (), "u")
        garden.told((1, 2, 3), "zed", "old", "u", ("d", "e", "x"))
        garden.done("root", "snap", ("d",), "v")

    def test_it_takes_no_room(self):
        garden = self.garden
        garden.done("ann", "limit", ("d",), 4)
        garden.done("root", "share", "ann", 4)
        garden.done("ann", "snap", ("d",), "t")
        garden.told((4, 4), "ann", "use", ("d",))
        garden.done("ann", "strike", ("d", "y"))
        garden.told((3, 4), "ann", "held", "ann")
        garden.told((4,), "ann", "old", "t", ("y",))

    def test_a_promise_made_ahead_changes_nothing_of_it(self):
        garden = self.garden
        garden.do("ann", "promise", ("d", "y"), 0, 2)
        garden.done("ann", "snap", ("d",), "t")
        garden.done("ann", "put", 3, (8, 9))
        garden.told((4,), "ann", "old", "t", ("y",))
        garden.told((8, 9), "ann", "read", ("d", "y"))

    def test_two_names_of_one_file(self):
        garden = self.garden
        garden.done("ann", "link", ("d", "y"), ("d", "e", "z"))
        garden.done("ann", "snap", ("d",), "t")
        garden.told((4,), "ann", "old", "t", ("y",))
        garden.told((4,), "ann", "old", "t", ("e", "z"))


if __name__ == "__main__":
    unittest.main()
