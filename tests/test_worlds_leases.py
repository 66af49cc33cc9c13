"""Promises 13 and 14: leases, deeds that wait for them, and what is told of old."""

import unittest

from farfiles.sizes import BOUND
from world_cases import DONE, WorldCase

NEW = ("rw", "r", "r")


class LeaseCase(WorldCase):
    def at_once(self, world, asker, *deed):
        """The answer, told without a letter."""
        letters = world.letters()
        question = world.ask(asker, deed)
        self.assertEqual(world.letters(), letters)
        self.assertIsNotNone(world.answer(question), deed)
        return world.answer(question)

    def by_letters(self, world, asker, *deed):
        """The answer, not told at once."""
        question = world.ask(asker, deed)
        self.assertIsNone(world.answer(question), deed)
        self.assertNotEqual(world.letters(), ())
        for _ in range(60):
            self.carry_all(world)
            if world.answer(question) is not None:
                return world.answer(question)
            world.tick()
        raise AssertionError(deed)

    def lease(self, world, asker, path, ticks):
        """The place of the lease."""
        answer, place, age = self.by_letters(world, asker, "lease", path, ticks)
        self.assertEqual((answer[0], age), ("told", 0))
        return place


class AtOnceTest(LeaseCase):
    def test_the_answer(self):
        world = self.with_file()
        world.tick(4)
        answer, place, age = self.by_letters(world, "a1", "lease", ("x",), 7)
        sight = (("told", ("file", "ann", "root", NEW, 3)), ("told", (1, 2, 3)))
        self.assertEqual((answer, age), (("told", (sight, world.now() + 7)), 0))
        self.assertEqual(world.order()[-1][::4], (place, ("lease", ("x",), 7)))

    def test_read_list_and_look_of_a_file(self):
        world = self.with_file()
        place = self.lease(world, "a1", ("x",), 7)
        order = world.order()
        self.assertEqual(self.at_once(world, "a1", "read", ("x",)), (("told", (1, 2, 3)), place, 0))
        self.assertEqual(self.at_once(world, "a1", "list", ("x",)), (("no", "nofolder"), place, 0))
        look = ("told", ("file", "ann", "root", NEW, 3))
        self.assertEqual(self.at_once(world, "a1", "look", ("x",)), (look, place, 0))
        self.assertEqual(world.order(), order)

    def test_of_a_folder(self):
        world = self.with_file()
        place = self.lease(world, "a1", (), 7)
        self.assertEqual(self.at_once(world, "a1", "list", ()), (("told", (("x", "file"),)), place, 0))
        self.assertEqual(self.at_once(world, "a1", "read", ()), (("no", "nofile"), place, 0))
        self.assertEqual(self.at_once(world, "a1", "look", ())[0][1][0], "folder")

    def test_of_what_is_not_come_to(self):
        world = self.with_file()
        for path, word in ((("no",), "nothere"), (("x", "y"), "nofolder")):
            place = self.lease(world, "a1", path, 7)
            for deed in ("read", "list", "look"):
                self.assertEqual(self.at_once(world, "a1", deed, path), (("no", word), place, 0))

    def test_of_what_may_not_be_read(self):
        world = self.with_file()
        self.done(world, "a0", "rights", ("x",), "ann", "root", ("rw", "", ""))
        place = self.lease(world, "a1", ("x",), 7)
        self.assertEqual(self.at_once(world, "a1", "read", ("x",)), (("no", "noright"), place, 0))
        self.assertEqual(self.at_once(world, "a1", "list", ("x",)), (("no", "nofolder"), place, 0))
        self.assertEqual(self.at_once(world, "a1", "look", ("x",))[0][0], "told")

    def test_only_of_that_path_and_of_its_asker(self):
        world = self.with_file()
        self.lease(world, "a1", ("x",), 20)
        self.by_letters(world, "a1", "read", ())
        self.by_letters(world, "a1", "read", ("y",))
        self.by_letters(world, "a0", "read", ("x",))
        self.by_letters(world, "a1", "use", ())
        self.by_letters(world, "a1", "held", "bob")
        self.by_letters(world, "a1", "old", "s", ())
        # Such askings leave it as it is.
        self.at_once(world, "a1", "read", ("x",))
        self.lease(world, "a1", ("y",), 20)
        self.at_once(world, "a1", "read", ("x",))
        self.at_once(world, "a1", "read", ("y",))

    def test_below_until(self):
        world = self.with_file()
        self.lease(world, "a1", ("x",), 3)
        until = world.now() + 3
        while world.now() < until:
            self.at_once(world, "a1", "read", ("x",))
            world.tick()
        self.by_letters(world, "a1", "read", ("x",))

    def test_till_it_asks_something_else(self):
        for deed in (("file", ("y",)), ("back", ("y",)), ("back", ("x",)), ("limit", ("x",), None),
                     ("snap", (), "s"), ("write", ("x",), None, (1,)), ("share", "bob", 3)):
            world = self.with_file()
            self.lease(world, "a1", ("x",), 20)
            self.by_letters(world, "a1", *deed)
            self.by_letters(world, "a1", "read", ("x",))
            place = self.lease(world, "a1", ("x",), 20)
            self.assertEqual(self.at_once(world, "a1", "read", ("x",))[1], place)

    def test_an_asker_that_falls_knows_its_leases_no_more(self):
        world = self.with_file()
        self.lease(world, "a1", ("x",), 20)
        world.fall("a1")
        world.rise("a1")
        self.by_letters(world, "a1", "read", ("x",))
        # But they stand.
        self.waits(world, "a0", "cut", ("x",), 1)

    def test_anew(self):
        world = self.with_file()
        self.lease(world, "a1", ("x",), 20)
        world.tick(2)
        place = self.lease(world, "a1", ("x",), 3)
        self.assertEqual(self.at_once(world, "a1", "read", ("x",))[1], place)
        world.tick(3)
        self.by_letters(world, "a1", "read", ("x",))
        self.done(world, "a0", "cut", ("x",), 1)


class WaitTest(LeaseCase):
    def held_up(self, world, asker, *deed):
        """Whether the deed waits till UNTIL; the last lease of 10 ticks was just told."""
        until = world.now() + 10
        question = world.ask(asker, deed)
        self.carry_all(world)
        if world.answer(question) is not None:
            return False
        while world.now() < until - 1:
            world.tick()
            self.carry_all(world)
            self.assertIsNone(world.answer(question), deed)
        for _ in range(3):
            world.tick()
            self.carry_all(world)
        self.assertEqual(world.answer(question)[0], DONE)
        self.assertGreaterEqual(world.order()[-1][1], until)
        return True

    def world(self):
        world = self.with_file(("ann", "ann", "bob", "root"))
        for deed in (("folder", ("d",)), ("folder", ("d", "e")), ("file", ("d", "y")), ("file", ("v",))):
            self.done(world, "a0", *deed)
        return world

    def test_which_deeds_wait(self):
        wide = ("rw", "rw", "rw")
        rows = (
            (("x",), ("write", ("x",), None, (1,)), True), (("x",), ("write", ("v",), None, (1,)), False),
            (("x",), ("cut", ("x",), 1), True), (("x",), ("cut", ("x",), 3), False),
            (("x",), ("strike", ("x",)), True), (("x",), ("move", ("x",), ("z",)), True),
            (("x",), ("rights", ("x",), "ann", "root", wide), True),
            (("x",), ("rights", ("x",), "ann", "root", NEW), False), (("x",), ("link", ("x",), ("z",)), False),
            (("x",), ("file", ("z",)), False), ((), ("file", ("z",)), True), ((), ("folder", ("z",)), True),
            ((), ("link", ("x",), ("z",)), True), ((), ("strike", ("v",)), True),
            ((), ("file", ("d", "z")), False), (("d",), ("file", ("d", "z")), True),
            (("d",), ("move", ("d", "e"), ("d", "f")), True), (("d",), ("move", ("d", "e"), ("e",)), True),
            (("d", "e"), ("move", ("d",), ("f",)), True), (("d", "no"), ("move", ("d",), ("f",)), False),
            (("no",), ("file", ("no",)), True), (("no",), ("move", ("x",), ("no",)), True),
            (("d", "y"), ("rights", ("d",), "ann", "root", ("rw", "", "")), True),
            (("d", "y"), ("rights", ("d",), "ann", "root", ("", "r", "r")), False),
            (("d",), ("limit", ("d",), 9), False), (("d",), ("snap", ("d",), "s"), False),
            (("d",), ("lease", ("d",), 9), False), (("x",), ("back", ("x",)), False),
        )
        for path, deed, wanted in rows:
            world = self.world()
            self.lease(world, "a2", path, 10)
            self.assertIs(self.held_up(world, "a0", *deed), wanted, (path, deed))

    def test_both_askers_may_have_one_user(self):
        world = self.world()
        self.lease(world, "a1", ("x",), 10)
        self.assertIs(self.held_up(world, "a0", "cut", ("x",), 0), True)

    def test_root_waits_too(self):
        world = self.world()
        self.lease(world, "a1", ("x",), 10)
        self.assertIs(self.held_up(world, "a3", "cut", ("x",), 0), True)

    def test_its_own_asker_does_not_wait(self):
        world = self.world()
        self.lease(world, "a0", ("x",), 10)
        self.assertIs(self.held_up(world, "a0", "cut", ("x",), 0), False)
        self.lease(world, "a0", ("x",), 10)
        world.fall("a0")
        world.rise("a0")
        self.assertIs(self.held_up(world, "a0", "write", ("x",), None, (1,)), False)

    def test_a_deed_that_is_refused_does_not_wait(self):
        world = self.world()
        self.lease(world, "a0", ("x",), 30)
        self.assertEqual(self.by_letters(world, "a2", "cut", ("x",), 0)[0], ("no", "noright"))
        self.assertEqual(self.by_letters(world, "a2", "write", ("x",), None, (1,))[0], ("no", "noright"))
        self.assertEqual(self.by_letters(world, "a1", "cut", ("x",), 9)[0], ("no", "noplace"))
        self.assertEqual(world.now(), 0)

    def test_nor_does_one_that_is_refused_for_room(self):
        world = self.world()
        self.done(world, "a0", "limit", ("d",), 2)
        self.done(world, "a3", "share", "eve", 2)
        self.lease(world, "a2", ("x",), 30)
        wide = ("rw", "rw", "rw")
        self.assertEqual(self.by_letters(world, "a0", "move", ("x",), ("d", "x"))[0], ("no", "noroom"))
        self.assertEqual(self.by_letters(world, "a3", "rights", ("x",), "eve", "root", wide)[0], ("no", "noroom"))
        self.lease(world, "a2", ("d",), 30)
        self.assertEqual(self.by_letters(world, "a0", "link", ("x",), ("d", "x"))[0], ("no", "noroom"))
        self.assertEqual(world.now(), 0)

    def test_what_the_leases_user_does_not_see(self):
        world = self.world()
        self.done(world, "a0", "rights", ("d",), "ann", "root", ("rw", "", ""))
        self.lease(world, "a2", ("d",), 10)
        # The number of names is seen in look, the cells below aren't.
        self.assertIs(self.held_up(world, "a0", "write", ("d", "y"), None, (1,)), False)
        self.assertIs(self.held_up(world, "a0", "file", ("d", "z")), True)

    def test_given_back(self):
        world = self.world()
        self.lease(world, "a2", ("x",), 30)
        question = self.waits(world, "a0", "cut", ("x",), 0)
        self.done(world, "a2", "back", ("v",))
        self.assertIsNone(world.answer(question))
        self.done(world, "a2", "back", ("x",))
        self.carry_all(world)
        self.assertEqual(world.answer(question)[0], DONE)

    def test_a_write_that_waits_has_its_room(self):
        world = self.world()
        self.lease(world, "a2", ("x",), 10)
        question = self.waits(world, "a0", "write", ("x",), None, (1, 2, 3, 4))
        self.assertEqual(self.asked(world, "a2", "use", ()), ("told", (7, None)))
        self.assertIs(world.calm(), True)
        self.assertEqual(world.answer(question)[0], DONE)

    def test_the_leases_of_a_head_alone(self):
        for head in ("h0", "h1"):
            world = self.world()
            self.lease(world, "a2", ("x",), 20)
            world.fall(head)
            self.assertIs(world.alone(), True)
            question = self.waits(world, "a0", "cut", ("x",), 0)
            self.at_once(world, "a2", "read", ("x",))
            self.done(world, "a2", "back", ("x",))
            self.carry_all(world)
            self.assertEqual(world.answer(question)[0], DONE)

    def test_calm_goes_on_till_the_lease_ends(self):
        world = self.world()
        self.lease(world, "a2", ("x",), 30)
        until = world.now() + 30
        question = world.ask("a0", ("cut", ("x",), 0))
        self.assertIs(world.calm(), True)
        self.assertEqual(world.answer(question)[0], DONE)
        self.assertEqual(world.order()[-1][1], until)


class GlanceTest(LeaseCase):
    def test_of_old_up_to_the_bound(self):
        for ticks, wanted in ((0, True), (1, True), (BOUND, True), (BOUND + 1, False)):
            world = self.with_file()
            answer, place, _ = self.by_letters(world, "a1", "read", ("x",))
            self.done(world, "a0", "cut", ("x",), 1)
            if ticks:
                world.tick(ticks)
            if wanted:
                told = self.at_once(world, "a1", "glance", ("read", ("x",)))
                self.assertEqual(told, (answer, place, ticks))
            else:
                told = self.by_letters(world, "a1", "glance", ("read", ("x",)))
                self.assertEqual(told, (("told", (1,)), world.order()[-1][0], 0))
                self.assertEqual(world.order()[-1][4], ("read", ("x",)))

    def test_of_that_very_deed_alone(self):
        world = self.with_file()
        self.by_letters(world, "a1", "read", ("x",))
        self.by_letters(world, "a1", "glance", ("look", ("x",)))
        self.by_letters(world, "a1", "glance", ("read", ("y",)))
        self.by_letters(world, "a0", "glance", ("read", ("x",)))
        # A glance told it, so it can be told of old now.
        for word, path in (("look", "x"), ("read", "y"), ("read", "x")):
            self.at_once(world, "a1", "glance", (word, (path,)))

    def test_whatever_the_answer(self):
        world = self.with_file()
        self.assertEqual(self.by_letters(world, "a1", "list", ("x",))[0], ("no", "nofolder"))
        self.assertEqual(self.at_once(world, "a1", "glance", ("list", ("x",)))[0], ("no", "nofolder"))

    def test_whatever_it_did_since(self):
        world = self.with_file(("ann",))
        answer, place, _ = self.by_letters(world, "a0", "look", ("x",))
        self.done(world, "a0", "strike", ("x",))
        self.assertEqual(self.at_once(world, "a0", "glance", ("look", ("x",))), (answer, place, 0))

    def test_by_the_greatest_place(self):
        world = self.with_file()
        self.by_letters(world, "a1", "read", ("x",))
        world.tick(5)
        self.done(world, "a0", "cut", ("x",), 1)
        answer, place, _ = self.by_letters(world, "a1", "read", ("x",))
        world.tick(7)
        self.assertEqual(self.at_once(world, "a1", "glance", ("read", ("x",))), (answer, place, 7))
        self.assertEqual(answer, ("told", (1,)))

    def test_not_behind_a_fall(self):
        world = self.with_file()
        self.by_letters(world, "a1", "read", ("x",))
        world.fall("a1")
        world.rise("a1")
        self.by_letters(world, "a1", "glance", ("read", ("x",)))

    def test_by_a_leases_sight(self):
        world = self.with_file()
        place = self.lease(world, "a1", ("x",), 2)
        world.tick(6)
        self.done(world, "a0", "cut", ("x",), 1)
        told = self.at_once(world, "a1", "glance", ("read", ("x",)))
        self.assertEqual(told, (("told", (1, 2, 3)), place, 6))
        self.assertEqual(self.at_once(world, "a1", "glance", ("look", ("x",)))[0][1][4], 3)
        # What the lease's kind isn't asked by was not told.
        self.by_letters(world, "a1", "glance", ("list", ("x",)))
        self.lease(world, "a1", (), 2)
        world.tick(6)
        self.at_once(world, "a1", "glance", ("list", ()))
        self.by_letters(world, "a1", "glance", ("read", ()))

    def test_by_a_leases_sight_that_was_refused_only_look(self):
        world = self.with_file()
        self.lease(world, "a1", ("no",), 2)
        world.tick(6)
        self.assertEqual(self.at_once(world, "a1", "glance", ("look", ("no",)))[0], ("no", "nothere"))
        self.by_letters(world, "a1", "glance", ("read", ("no",)))
        self.by_letters(world, "a1", "glance", ("list", ("no",)))

    def test_while_a_lease_stands(self):
        world = self.with_file()
        place = self.lease(world, "a1", ("x",), 30)
        world.tick(9)
        self.assertEqual(self.at_once(world, "a1", "glance", ("read", ("x",)))[1:], (place, 9))
        # A list was told by none yet, so it's told by the lease itself, and then of old.
        self.assertEqual(self.at_once(world, "a1", "glance", ("list", ("x",)))[1:], (place, 0))
        self.assertEqual(self.at_once(world, "a1", "glance", ("list", ("x",)))[1:], (place, 9))
        world.tick(BOUND - 9)
        self.assertEqual(self.at_once(world, "a1", "glance", ("read", ("x",)))[1:], (place, BOUND))
        world.tick()
        self.assertEqual(self.at_once(world, "a1", "glance", ("read", ("x",)))[1:], (place, 0))
        world.tick(9)
        self.by_letters(world, "a1", "glance", ("read", ("x",)))

    def test_the_row_that_is_told(self):
        world = self.with_file()
        answer, place, _ = self.by_letters(world, "a1", "read", ("x",))
        world.tick(4)
        question = world.ask("a1", ("glance", ("read", ("x",))))
        row = (question, "a1", ("glance", ("read", ("x",))), answer, place, 4, world.now())
        self.assertEqual(world.told()[-1], row)
        self.assertNotIn(question, [row[3] for row in world.order()])


if __name__ == "__main__":
    unittest.main()
