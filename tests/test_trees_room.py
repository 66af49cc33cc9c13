"""Promise 7: limits, shares, promised cells and their puts, and use."""

import unittest

from farfiles.sizes import MOST, PATIENCE
from gardens import Garden

GROUPS = (("root", ("gil",)), ("staff", ("ann", "bob")))
ALL = ("rw", "rw", "rw")


class RoomCase(unittest.TestCase):
    def setUp(self):
        self.garden = Garden(self, GROUPS)
        self.garden.make("ann", "d/", "d/e/", "d/e/x", "y")
        self.garden.write("ann", "d/e/x", (1, 2, 3))
        self.garden.write("ann", "y", (4, 5))


class UseTest(RoomCase):
    def test_use_and_held(self):
        garden = self.garden
        garden.told((5, None), "zed", "use", ())
        garden.told((3, None), "zed", "use", ("d",))
        garden.told((3, None), "zed", "use", ("d", "e"))
        garden.told((5, None), "ann", "held", "ann")
        garden.told((0, None), "bob", "held", "bob")
        garden.told((5, None), "root", "held", "ann")

    def test_each_file_once_however_many_names(self):
        garden = self.garden
        garden.done("ann", "link", ("d", "e", "x"), ("d", "z"))
        garden.done("ann", "link", ("y",), ("d", "e", "y"))
        garden.done("ann", "link", ("y",), ("d", "v"))
        self.assertEqual([garden.use(where) for where in ("", "d", "d/e")], [5, 5, 5])
        self.assertEqual(garden.held("ann"), 5)
        garden.done("ann", "strike", ("d", "e", "x"))
        self.assertEqual([garden.use(where) for where in ("", "d", "d/e")], [5, 5, 2])
        garden.done("ann", "strike", ("d", "z"))
        self.assertEqual([garden.use(where) for where in ("", "d", "d/e")], [2, 2, 2])

    def test_by_the_owner(self):
        self.garden.done("root", "rights", ("y",), "bob", "root", ALL)
        self.assertEqual((self.garden.held("ann"), self.garden.held("bob")), (3, 2))

    def test_words_in_their_order(self):
        garden = self.garden
        garden.no("nothere", "zed", "use", ("no",))
        garden.no("nofolder", "ann", "use", ("y",))
        garden.done("ann", "rights", ("d",), "ann", "root", ("rw", "w", "w"))
        garden.no("noright", "zed", "use", ("d",))
        garden.no("noright", "ann", "held", "bob")
        garden.no("noright", "ann", "held", "root")
        garden.no("noright", "gil", "held", "root")

    def test_what_is_promised_counts(self):
        garden = self.garden
        garden.do("gil", "promise", ("y",), 0, 9)
        garden.done("ann", "rights", ("y",), "ann", "root", ALL)
        self.assertEqual(garden.do("gil", "promise", ("y",), 0, 9), ("done", 3))
        self.assertEqual((garden.use(""), garden.use("d"), garden.held("ann")), (14, 3, 14))
        garden.done("gil", "put", 3, (0,) * 9)
        self.assertEqual((garden.use(""), garden.use("d"), garden.held("ann")), (12, 3, 12))


class LimitTest(RoomCase):
    def test_words_in_their_order(self):
        garden = self.garden
        garden.no("nothere", "zed", "limit", ("no",), 0)
        garden.no("nofolder", "zed", "limit", ("y",), 0)
        garden.no("noright", "zed", "limit", ("d",), 0)
        garden.no("noright", "gil", "limit", (), None)
        garden.no("noroom", "ann", "limit", ("d",), 2)
        garden.no("noroom", "root", "limit", (), 0)
        garden.done("ann", "limit", ("d",), 3)
        garden.told((3, 3), "zed", "use", ("d",))
        garden.done("root", "limit", ("d",), None)
        garden.told((3, None), "zed", "use", ("d",))

    def test_a_limit_just_met(self):
        garden = self.garden
        garden.done("ann", "limit", ("d",), 5)
        garden.no("noroom", "ann", "promise", ("d", "e", "x"), None, 3)
        self.assertEqual(garden.do("ann", "promise", ("d", "e", "x"), None, 2), ("done", 3))
        garden.no("noroom", "ann", "promise", ("d", "e", "x"), 0, 1)
        self.assertEqual(garden.do("ann", "promise", ("y",), 0, 24), ("done", 4))
        garden.told((5, 5), "ann", "use", ("d",))
        garden.no("noroom", "ann", "limit", ("d",), 4)

    def test_limits_of_all_folders_above_any_name(self):
        garden = self.garden
        garden.make("ann", "f/", "f/g/")
        garden.done("ann", "link", ("d", "e", "x"), ("f", "g", "x"))
        garden.done("ann", "limit", ("f",), 4)
        garden.no("noroom", "ann", "promise", ("d", "e", "x"), None, 2)
        garden.done("root", "limit", (), 6)
        garden.no("noroom", "ann", "promise", ("y",), None, 2)
        self.assertEqual(garden.do("ann", "promise", ("d", "e", "x"), None, 1), ("done", 3))
        garden.no("noroom", "ann", "promise", ("y",), None, 1)

    def test_link_and_move_under_a_limit(self):
        garden = self.garden
        garden.done("ann", "limit", ("d",), 4)
        garden.no("noroom", "ann", "link", ("y",), ("d", "y"))
        garden.no("noroom", "ann", "move", ("y",), ("d", "e", "y"))
        self.assertEqual((garden.names("d"), garden.names("")), (["e"], ["d", "y"]))
        self.assertEqual(garden.names("d/e"), ["x"])
        garden.no("stands", "ann", "move", ("y",), ("d", "e"))
        # Within the limited folder nothing becomes more.
        garden.done("ann", "limit", ("d",), 3)
        garden.done("ann", "link", ("d", "e", "x"), ("d", "z"))
        garden.done("ann", "move", ("d", "e", "x"), ("d", "v"))
        garden.done("ann", "limit", ("d",), 5)
        garden.done("ann", "move", ("y",), ("d", "e", "y"))

    def test_a_folder_moves_with_all_that_it_has(self):
        garden = self.garden
        garden.make("ann", "f/")
        garden.done("ann", "limit", ("f",), 2)
        garden.no("noroom", "ann", "move", ("d",), ("f", "d"))
        garden.done("ann", "limit", ("f",), 3)
        garden.done("ann", "move", ("d",), ("f", "d"))
        garden.told((3, 3), "ann", "use", ("f",))

    def test_deep_goes_ahead_of_noroom(self):
        garden = self.garden
        garden.make("ann", "f/", "f/g/", "f/g/h/", "f/g/h/i/")
        garden.done("ann", "limit", ("f",), 0)
        garden.no("deep", "ann", "move", ("d",), ("f", "g", "h", "i", "d"))
        garden.no("noroom", "ann", "move", ("d",), ("f", "g", "h", "d"))

    def test_a_limit_goes_with_its_folder(self):
        garden = self.garden
        garden.done("ann", "limit", ("d", "e"), 3)
        garden.done("ann", "move", ("d", "e"), ("f",))
        garden.no("noroom", "ann", "promise", ("f", "x"), None, 1)
        garden.told((0, None), "ann", "use", ("d",))
        garden.done("ann", "strike", ("f", "x"))
        garden.done("ann", "strike", ("f",))
        garden.make("ann", "f/")
        garden.told((0, None), "ann", "use", ("f",))


class ShareTest(RoomCase):
    def test_words_in_their_order(self):
        garden = self.garden
        garden.no("noright", "ann", "share", "ann", 0)
        garden.no("noright", "gil", "share", "gil", None)
        garden.no("noroom", "root", "share", "ann", 4)
        garden.done("root", "share", "ann", 5)
        garden.told((5, 5), "ann", "held", "ann")
        garden.no("noroom", "ann", "promise", ("y",), None, 1)
        garden.done("root", "share", "ann", None)
        garden.told((5, None), "ann", "held", "ann")

    def test_the_owners_share_whoever_promises(self):
        garden = self.garden
        garden.done("root", "share", "zed", 0)
        garden.done("ann", "rights", ("y",), "ann", "root", ALL)
        self.assertEqual(garden.do("zed", "promise", ("y",), None, 1)[0], "done")
        garden.done("root", "share", "ann", 6)
        garden.no("noroom", "zed", "promise", ("y",), None, 1)

    def test_a_new_owner_needs_room(self):
        garden = self.garden
        garden.done("root", "share", "bob", 1)
        garden.no("noroom", "root", "rights", ("y",), "bob", "staff", ALL)
        garden.told(("file", "ann", "root", ("rw", "r", "r"), 2), "bob", "look", ("y",))
        garden.done("root", "rights", ("d",), "bob", "staff", ALL)
        garden.done("root", "share", "bob", 2)
        garden.done("root", "rights", ("y",), "bob", "staff", ALL)
        garden.told((2, 2), "bob", "held", "bob")

    def test_promised_cells_go_with_the_file(self):
        garden = self.garden
        garden.do("ann", "promise", ("y",), None, 4)
        garden.done("root", "share", "bob", 5)
        garden.no("noroom", "root", "rights", ("y",), "bob", "root", ALL)
        garden.done("root", "share", "bob", 6)
        garden.done("root", "rights", ("y",), "bob", "root", ALL)
        self.assertEqual((garden.held("ann"), garden.held("bob")), (3, 6))


class PromiseTest(RoomCase):
    def test_words_in_their_order(self):
        garden = self.garden
        garden.done("root", "limit", (), 5)
        garden.no("nothere", "zed", "promise", ("no",), 9, 1)
        garden.no("nofile", "zed", "promise", ("d",), 9, 1)
        garden.no("nofile", "root", "promise", (), None, 1)
        garden.no("noright", "zed", "promise", ("y",), 9, 1)
        garden.no("noplace", "ann", "promise", ("y",), 3, 1)
        garden.no("noroom", "ann", "promise", ("y",), 2, 1)
        garden.no("noroom", "ann", "promise", ("y",), 0, 1)

    def test_numbers_are_one_more_each_time(self):
        garden = self.garden
        self.assertEqual(garden.do("ann", "promise", ("y",), None, 1), ("done", 3))
        garden.no("noplace", "ann", "promise", ("y",), 9, 1)
        garden.no("late", "ann", "put", 3, (1, 2))
        self.assertEqual(garden.do("ann", "promise", ("y",), None, MOST), ("done", 4))

    def test_put_at_each_place(self):
        for place, wanted in ((None, (4, 5, 7, 8, 9)), (0, (7, 8, 9)), (1, (4, 7, 8, 9)),
                              (2, (4, 5, 7, 8, 9))):
            self.setUp()
            self.garden.write("ann", "y", (7, 8, 9), place)
            self.assertEqual(self.garden.cells("y"), wanted)
            self.garden.told(("file", "ann", "root", ("rw", "r", "r"), len(wanted)), "ann", "look", ("y",))
        self.garden.write("ann", "y", (6,), 3)
        self.assertEqual(self.garden.cells("y"), (4, 5, 7, 6, 9))

    def test_the_end_is_that_of_the_put(self):
        garden = self.garden
        garden.do("ann", "promise", ("y",), None, 1)
        garden.do("ann", "promise", ("y",), None, 1)
        garden.done("ann", "put", 4, (14,))
        garden.done("ann", "put", 3, (13,))
        self.assertEqual(garden.cells("y"), (4, 5, 14, 13))

    def test_late(self):
        garden = self.garden
        for number in (0, 3, 10**30):
            garden.no("late", "ann", "put", number, (1,))
        garden.do("ann", "promise", ("y",), None, 2)
        garden.no("late", "bob", "put", 3, (1, 2))
        garden.no("late", "root", "put", 3, (1, 2))
        garden.no("late", "ann", "put", 3, (1,))
        garden.no("late", "ann", "put", 3, (1, 2, 3))
        # Where it was late, the promise still stands.
        garden.told((7, None), "ann", "use", ())
        garden.done("ann", "put", 3, (1, 2))
        garden.no("late", "ann", "put", 3, (1, 2))
        garden.no("late", "ann", "put", 1, (1, 2, 3))

    def test_patience(self):
        for ticks, fine in ((0, True), (PATIENCE, True), (PATIENCE + 1, False)):
            garden = Garden(self)
            garden.make("ann", "y")
            garden.tick = 5
            garden.do("ann", "promise", ("y",), None, 2)
            garden.tick += ticks
            garden.told((2 if fine else 0, None), "ann", "use", ())
            garden.told((2 if fine else 0, None), "ann", "held", "ann")
            if fine:
                garden.done("ann", "put", 1, (8, 9))
            else:
                garden.no("late", "ann", "put", 1, (8, 9))
            self.assertEqual(garden.cells("y"), (8, 9) if fine else ())

    def test_what_lapsed_gives_its_room_back(self):
        garden = self.garden
        garden.done("ann", "limit", ("d",), 5)
        garden.do("ann", "promise", ("d", "e", "x"), None, 2)
        garden.tick = PATIENCE
        garden.no("noroom", "ann", "promise", ("d", "e", "x"), None, 1)
        garden.tick = PATIENCE + 1
        self.assertEqual(garden.do("ann", "promise", ("d", "e", "x"), None, 2), ("done", 4))
        garden.done("ann", "put", 4, (8, 9))
        self.assertEqual(garden.cells("d/e/x"), (1, 2, 3, 8, 9))

    def test_a_put_into_that_file_whatever_its_names(self):
        garden = self.garden
        garden.do("ann", "promise", ("y",), 1, 2)
        garden.done("ann", "move", ("y",), ("d", "v"))
        garden.done("ann", "file", ("y",))
        garden.done("ann", "link", ("d", "v"), ("d", "e", "v"))
        garden.done("ann", "strike", ("d", "v"))
        garden.done("ann", "put", 3, (8, 9))
        self.assertEqual((garden.cells("y"), garden.cells("d/e/v")), ((), (4, 8, 9)))

    def test_nofile(self):
        garden = self.garden
        garden.do("ann", "promise", ("y",), None, 1)
        garden.done("ann", "strike", ("y",))
        garden.make("ann", "y")
        self.assertEqual(garden.held("ann"), 3)
        garden.no("nofile", "ann", "put", 3, (1,))
        garden.no("late", "ann", "put", 3, (1,))

    def test_a_name_that_was_refused_keeps_no_file(self):
        garden = self.garden
        garden.done("ann", "limit", ("d",), 4)
        garden.do("ann", "promise", ("y",), None, 1)
        garden.no("noroom", "ann", "link", ("y",), ("d", "y"))
        garden.no("noroom", "ann", "move", ("y",), ("d", "y"))
        garden.done("ann", "strike", ("y",))
        garden.no("nofile", "ann", "put", 3, (1,))

    def test_noright_and_then_the_promise_is_gone(self):
        garden = self.garden
        garden.do("ann", "promise", ("y",), 2, 1)
        garden.done("root", "rights", ("y",), "bob", "root", ("rw", "r", "r"))
        garden.done("bob", "cut", ("y",), 1)
        garden.told((5, None), "ann", "use", ())
        garden.no("noright", "ann", "put", 3, (1,))
        garden.told((4, None), "ann", "use", ())
        garden.done("root", "rights", ("y",), "ann", "root", ("rw", "r", "r"))
        garden.no("late", "ann", "put", 3, (1,))

    def test_the_way_to_the_file_is_not_asked(self):
        garden = self.garden
        garden.do("ann", "promise", ("d", "e", "x"), None, 1)
        garden.done("root", "rights", ("d",), "bob", "root", ("rw", "", ""))
        garden.no("noright", "ann", "read", ("d", "e", "x"))
        garden.done("ann", "put", 3, (4,))
        self.assertEqual(garden.cells("d/e/x"), (1, 2, 3, 4))

    def test_noplace_and_then_the_promise_is_gone(self):
        garden = self.garden
        garden.do("ann", "promise", ("y",), 2, 1)
        garden.do("ann", "promise", ("y",), 1, 1)
        garden.done("ann", "cut", ("y",), 1)
        garden.no("noplace", "ann", "put", 3, (9,))
        garden.no("late", "ann", "put", 3, (9,))
        garden.done("ann", "put", 4, (8,))
        self.assertEqual(garden.cells("y"), (4, 8))

    def test_a_put_is_never_refused_for_room(self):
        garden = self.garden
        garden.done("root", "limit", (), 9)
        garden.done("root", "share", "ann", 9)
        garden.do("ann", "promise", ("y",), 0, 4)
        garden.done("ann", "cut", ("y",), 0)
        garden.no("noroom", "ann", "promise", ("d", "e", "x"), None, 3)
        garden.do("ann", "promise", ("d", "e", "x"), None, 2)
        garden.done("ann", "put", 3, (1, 2, 3, 4))
        garden.done("ann", "put", 4, (5, 6))
        garden.told((9, 9), "ann", "use", ())

    def test_like_cells_of_two_writes_are_two_pieces(self):
        garden = self.garden
        garden.write("ann", "y", (1, 1))
        garden.write("ann", "y", (1, 1))
        garden.write("ann", "y", (1,), 3)
        self.assertEqual(garden.cells("y"), (4, 5, 1, 1, 1, 1))


if __name__ == "__main__":
    unittest.main()
