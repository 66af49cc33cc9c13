"""Promises 12 and 16: two heads, one that goes on alone, and calm."""

import unittest

from farfiles.worlds import World
from world_cases import DONE, WorldCase


class TwoHeadsTest(WorldCase):
    def test_nothing_is_settled_with_one_of_two(self):
        for head in ("h0", "h1"):
            for word in ("fall", "gone"):
                world = World(("ann",))
                getattr(world, word)(head)
                self.waits(world, "a0", "file", ("x",))
                self.assertEqual(world.order(), ())
                self.assertIs(world.calm(), False)
                self.assertEqual((world.order(), world.told()), ((), ()))

    def test_readings_are_settled_so_too(self):
        world = self.with_file()
        order = world.order()
        world.fall("h0")
        question = self.waits(world, "a1", "look", ("x",))
        self.assertEqual(world.order(), order)
        world.rise("h0")
        self.assertIs(world.calm(), True)
        self.assertEqual(world.answer(question)[0][0], "told")

    def test_without_letters_between_the_heads_nothing_is_settled(self):
        world = World(("ann",))
        world.ask("a0", ("file", ("x",)))
        for _ in range(30):
            for number, source, target in world.letters():
                between = source[0] == "h" and target[0] == "h"
                (world.lose if between else world.carry)(number)
            world.tick()
        self.assertEqual((world.order(), world.answer(0)), ((), None))
        self.assertIs(world.calm(), True)
        self.assertEqual(world.answer(0)[0], DONE)

    def test_both_fall_and_rise(self):
        world = self.with_file()
        for heads in (("h0", "h1"), ("h1", "h0")):
            for head in heads:
                world.fall(head)
            self.assertIs(world.alone(), False)
            for head in heads:
                world.rise(head)
            self.assertEqual(self.asked(world, "a1", "read", ("x",)), ("told", (1, 2, 3)))

    def test_what_was_told_stays_whichever_head_is_left(self):
        for head in ("h0", "h1"):
            world = self.with_file()
            self.done(world, "a1", "folder", ("d",))
            told, order = world.told(), world.order()
            world.gone(head)
            self.assertIs(world.alone(), True)
            self.assertEqual(self.asked(world, "a1", "read", ("x",)), ("told", (1, 2, 3)))
            self.assertEqual(self.asked(world, "a0", "list", ()), ("told", (("d", "folder"), ("x", "file"))))
            self.assertEqual(world.told()[:len(told)], told)
            self.assertEqual(world.order()[:len(order)], order)

    def test_half_settled_deeds_of_a_head_that_falls(self):
        """Each letter in turn is the last one before h0 falls for good, or for a while."""
        for last in range(1, 12):
            for back in (False, True):
                world = World(("ann",))
                world.ask("a0", ("file", ("x",)))
                for _ in range(last):
                    if world.letters():
                        world.carry(world.letters()[0][0])
                world.fall("h0")
                self.assertIs(world.alone(), True)
                self.asked_again(world)
                if back:
                    world.rise("h0")
                    self.assertIs(world.calm(), True)
                    world.fall("h1")
                    self.assertIs(world.alone(), True)
                    self.assertEqual(self.asked(world, "a0", "list", ()), ("told", (("x", "file"),)))

    def asked_again(self, world):
        for _ in range(3):
            world.tick()
            self.carry_all(world)
        self.assertEqual(world.answer(0)[0], DONE)
        self.assertEqual(len(world.order()), 1)


class ApartTest(WorldCase):
    """Deeds that h0 wrote down, but that the other head never got."""

    def with_rows_of_one(self, many):
        world = World(("ann", "bob", "eve", "root"))
        for at in range(many):
            world.ask(f"a{at}", ("file", ("x" * (at + 1),)))
        for number, _, target in world.letters():
            (world.carry if target == "h0" else world.lose)(number)
        for number, _, _ in world.letters():
            world.lose(number)
        for at in range(many):
            world.fall(f"a{at}")
            world.rise(f"a{at}")
        world.fall("h0")
        self.assertIs(world.alone(), True)
        return world

    def test_they_are_dropped_where_the_other_one_went_on(self):
        for many in (1, 2, 3):
            for asked in (0, 1, 2, 3):
                world = self.with_rows_of_one(many)
                for at in range(asked):
                    self.done(world, "a3", "folder", ("d" * (at + 1),))
                world.rise("h0")
                self.assertIs(world.calm(), True)
                world.gone("h1")
                self.assertIs(world.alone(), True)
                names = [name for name, _ in self.asked(world, "a3", "list", ())[1]]
                self.assertEqual(names, ["d" * (at + 1) for at in range(asked)])
                words = [row[4][0] for row in world.order()]
                self.assertEqual(words, ["folder"] * asked + ["list"])

    def test_without_one_alone_they_may_be_settled_in_the_end(self):
        world = World(("ann",))
        world.ask("a0", ("file", ("x",)))
        for number, _, target in world.letters():
            (world.carry if target == "h0" else world.lose)(number)
        for number, _, _ in world.letters():
            world.lose(number)
        self.assertEqual(world.order(), ())
        world.fall("h0")
        world.rise("h0")
        self.assertIs(world.calm(), True)
        self.assertEqual(world.answer(0)[0], DONE)
        self.assertEqual(len(world.order()), 1)


class AloneTest(WorldCase):
    def test_not_while_both_are_up_or_none(self):
        world = World(("ann",))
        self.assertIs(world.alone(), False)
        world.fall("h0")
        world.fall("h1")
        self.assertIs(world.alone(), False)
        world.rise("h0")
        # h0 fell, so it isn't in step.
        self.assertIs(world.alone(), False)
        self.waits(world, "a0", "file", ("x",))

    def test_in_step_at_first(self):
        for down, word in (("h0", "fall"), ("h1", "fall"), ("h0", "gone"), ("h1", "gone")):
            world = World(("ann",))
            getattr(world, word)(down)
            self.assertIs(world.alone(), True)
            self.assertIs(world.alone(), True)
            self.done(world, "a0", "file", ("x",))

    def test_one_that_falls_is_not_in_step_till_a_calm(self):
        for one, other in (("h0", "h1"), ("h1", "h0")):
            world = World(("ann",))
            world.fall(one)
            world.rise(one)
            world.fall(other)
            self.assertIs(world.alone(), False)
            self.waits(world, "a0", "file", ("x",))
            world.rise(other)
            # Both fell; now a calm has both in step again.
            self.assertIs(world.calm(), True)
            world.fall(other)
            self.assertIs(world.alone(), True)

    def test_a_calm_that_told_false_has_none_in_step(self):
        world = World(("ann",))
        world.fall("h0")
        world.rise("h0")
        world.fall("p0")
        self.assertIs(world.calm(), False)
        world.fall("h1")
        self.assertIs(world.alone(), False)

    def test_the_other_one_may_be_in_step(self):
        world = World(("ann",))
        world.fall("h0")
        world.rise("h0")
        world.fall("h0")
        self.assertIs(world.alone(), True)
        self.done(world, "a0", "file", ("x",))

    def test_alone_behind_its_own_falls_till_a_calm(self):
        for one, other in (("h0", "h1"), ("h1", "h0")):
            world = World(("ann", "bob"))
            world.fall(other)
            self.assertIs(world.alone(), True)
            self.done(world, "a0", "file", ("x",))
            world.fall(one)
            self.assertIs(world.alone(), False)
            world.rise(one)
            self.done(world, "a0", "file", ("y",))
            self.assertIs(world.alone(), True)
            # The other one is up, but not asked to, till a calm told True.
            world.rise(other)
            self.assertIs(world.alone(), False)
            self.done(world, "a1", "file", ("z",))
            world.fall(one)
            self.assertIs(world.alone(), False)
            self.waits(world, "a0", "file", ("v",))
            world.rise(one)
            self.assertIs(world.calm(), True)
            world.fall(one)
            self.waits(world, "a0", "file", ("w",))
            self.assertIs(world.alone(), True)
            self.assertIs(world.calm(), True)
            self.assertEqual(len(self.asked(world, "a1", "list", ())[1]), 5)

    def test_a_calm_of_the_one_alone_changes_that_not(self):
        world = World(("ann",))
        world.fall("h1")
        self.assertIs(world.alone(), True)
        self.assertIs(world.calm(), True)
        self.done(world, "a0", "file", ("x",))
        world.rise("h1")
        world.fall("h0")
        self.assertIs(world.alone(), False)


class CalmTest(WorldCase):
    def test_no_letter_waits_at_its_end(self):
        world = World(("ann",))
        world.ask("a0", ("file", ("x",)))
        world.fall("h1")
        start = world.now()
        self.assertIs(world.calm(), False)
        self.assertEqual(world.letters(), ())
        self.assertEqual(world.now(), start + 300)

    def test_no_tick_where_nothing_is_left(self):
        world = self.with_file()
        now = world.now()
        for _ in range(3):
            self.assertIs(world.calm(), True)
        self.assertEqual(world.now(), now)

    def test_a_house_that_is_down(self):
        for house, wanted in (("h0", False), ("h1", False), ("p0", False), ("p2", False), ("a1", True)):
            world = self.with_file()
            world.fall(house)
            self.assertIs(world.calm(), wanted, house)

    def test_without_a_head(self):
        for word in ("fall", "gone"):
            world = self.with_file()
            for head in ("h0", "h1"):
                getattr(world, word)(head)
            self.assertIs(world.calm(), False)
            self.assertEqual(world.now(), 0)
            for house in ("p0", "p1"):
                world.bend(house)
            self.assertIs(world.calm(), False)
            self.assertEqual(world.now(), 300)
            self.assertIs(world.alone(), False)
            self.waits(world, "a0", "read", ("x",))

    def test_what_is_gone_is_not_down(self):
        world = self.with_file()
        world.fall("p0")
        world.gone("p0")
        self.assertIs(world.calm(), True)
        world.fall("h0")
        world.gone("h0")
        self.assertIs(world.calm(), False)
        self.assertIs(world.alone(), True)
        self.assertIs(world.calm(), True)

    def test_of_heads_one_that_goes_on_alone_is_enough(self):
        world = self.with_file()
        world.fall("h1")
        self.assertIs(world.calm(), False)
        self.assertIs(world.alone(), True)
        self.assertIs(world.calm(), True)

    def test_a_question_of_an_asker_that_fell(self):
        world = World(("ann", "bob"))
        world.ask("a0", ("file", ("x",)))
        world.fall("a0")
        self.assertIs(world.calm(), True)
        self.assertEqual(world.told(), ())

    def test_one_head_gets_what_it_lacks(self):
        for one, other in (("h0", "h1"), ("h1", "h0")):
            world = World(("ann",))
            world.fall(other)
            world.alone()
            for name in ("x", "y", "z"):
                self.done(world, "a0", "file", (name,))
            world.rise(other)
            self.assertIs(world.calm(), True)
            world.gone(one)
            self.assertIs(world.alone(), True)
            self.assertEqual(len(self.asked(world, "a0", "list", ())[1]), 3)

    def test_many_rows_that_one_head_lacks(self):
        world = World(("ann",))
        world.fall("h0")
        world.alone()
        for _ in range(130):
            self.assertEqual(self.asked(world, "a0", "use", ()), ("told", (0, None)))
        world.rise("h0")
        self.assertIs(world.calm(), True)
        world.fall("h1")
        self.assertIs(world.alone(), True)
        self.assertEqual(self.asked(world, "a0", "use", ()), ("told", (0, None)))
        self.assertEqual(len(world.order()), 131)

    def test_all_piece_houses_being_emptied(self):
        world = self.with_file(pieces=2, copies=1)
        world.empty("p0")
        world.empty("p1")
        self.assertIs(world.calm(), False)
        bare = self.with_file(data=None)
        for house in ("p0", "p1", "p2"):
            bare.empty(house)
        self.assertIs(bare.calm(), True)


if __name__ == "__main__":
    unittest.main()
