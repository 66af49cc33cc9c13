"""Promise 15: copies of cells, what is lost, bent and emptied, and what waits for it."""

import itertools
import unittest

from world_cases import DONE, WorldCase


class PutTest(WorldCase):
    def test_a_put_waits_for_copies_houses(self):
        for copies in (1, 2, 3):
            for down in range(4):
                world = self.with_file(data=None, copies=copies)
                for at in range(down):
                    world.fall(f"p{at}")
                question = world.ask("a0", ("write", ("x",), None, (1, 2, 3)))
                for _ in range(9):
                    self.carry_all(world)
                    world.tick()
                words = [row[4][0] for row in world.order()]
                if 3 - down >= copies:
                    self.assertEqual(world.answer(question)[0], DONE)
                    continue
                self.assertIsNone(world.answer(question))
                self.assertEqual(words, ["file", "promise"])
                world.rise("p0")
                for at in range(1, down):
                    world.rise(f"p{at}")
                self.assertIs(world.calm(), True)
                self.assertEqual(world.answer(question)[0], DONE)

    def test_or_for_all_that_are_neither_gone_nor_being_emptied(self):
        for lost in itertools.product(("gone", "empty"), repeat=2):
            world = self.with_file(data=None, copies=3)
            for at, word in enumerate(lost):
                getattr(world, word)(f"p{at}")
            self.done(world, "a0", "write", ("x",), None, (1, 2, 3))
            self.assertIs(world.calm(), True)

    def test_one_at_least(self):
        for lost in ("gone", "empty"):
            world = self.with_file(data=None, pieces=1, copies=1)
            getattr(world, lost)("p0")
            question = world.ask("a0", ("write", ("x",), None, (1, 2, 3)))
            self.assertIs(world.calm(), False)
            self.assertIsNone(world.answer(question))
            self.assertEqual([row[4][0] for row in world.order()], ["file", "promise"])

    def test_no_copies_in_a_house_that_is_being_emptied(self):
        world = self.with_file(data=None, pieces=2, copies=1)
        world.empty("p0")
        for _ in range(6):
            self.done(world, "a0", "write", ("x",), None, (1,))
        world.gone("p1")
        self.assertEqual(self.asked(world, "a1", "read", ("x",)), ("lost", ("p1",)))

    def test_it_holds_up_no_other_asker(self):
        world = self.with_file()
        for at in range(3):
            world.fall(f"p{at}")
        self.waits(world, "a0", "write", ("x",), None, (4,))
        self.done(world, "a1", "folder", ("d",))
        self.done(world, "a1", "link", ("x",), ("d", "x"))
        self.done(world, "a1", "strike", ("x",))
        self.assertEqual(self.asked(world, "a1", "look", ("d", "x"))[0], "told")

    def test_a_refused_write_waits_for_no_house(self):
        world = self.with_file()
        for at in range(3):
            world.fall(f"p{at}")
        self.assertEqual(self.asked(world, "a0", "write", ("y",), None, (4,)), ("no", "nothere"))
        self.assertEqual(self.asked(world, "a1", "write", ("x",), None, (4,)), ("no", "noright"))

    def test_cells_that_were_told_done_stand_with_that_many(self):
        for pair in itertools.combinations(range(4), 2):
            world = self.with_file(pieces=4, copies=3)
            for at in pair:
                world.gone(f"p{at}")
            self.assertEqual(self.asked(world, "a1", "read", ("x",)), ("told", (1, 2, 3)))

    def test_told_done_and_lost_one_by_one_between_calms(self):
        for word in ("gone", "bend"):
            world = self.with_file(pieces=4, copies=2)
            for at in range(3):
                getattr(world, word)(f"p{at}")
                self.assertEqual(self.asked(world, "a1", "read", ("x",)), ("told", (1, 2, 3)))
                self.assertIs(world.calm(), True)

    def test_without_a_calm_ahead(self):
        """What was just told done is safe from fewer than COPIES losses at once."""
        for word in ("gone", "bend"):
            for at in range(3):
                world = self.with_file(data=None)
                self.done(world, "a0", "write", ("x",), None, (7, 8))
                getattr(world, word)(f"p{at}")
                self.assertEqual(self.asked(world, "a1", "read", ("x",)), ("told", (7, 8)))


class ReadTest(WorldCase):
    def test_a_reading_waits_for_houses_that_are_down(self):
        for deed in (("read", ("x",)), ("lease", ("x",), 9), ("glance", ("read", ("x",))), ("old", "s", ("x",))):
            world = self.with_file(("root", "bob"))
            self.done(world, "a0", "snap", (), "s")
            for at in range(3):
                world.fall(f"p{at}")
            question = self.waits(world, "a1", *deed)
            # The names are told all the same.
            self.assertEqual(self.asked(world, "a0", "look", ("x",))[0], "told")
            world.tick(30)
            self.assertIs(world.calm(), False)
            self.assertIsNone(world.answer(question))
            for at in range(3):
                world.rise(f"p{at}")
            self.assertIs(world.calm(), True)
            self.assertIn("told", world.answer(question)[0])

    def test_no_cells_no_waiting(self):
        world = self.with_file(data=None)
        for at in range(3):
            world.fall(f"p{at}")
        self.assertEqual(self.asked(world, "a1", "read", ("x",)), ("told", ()))
        for at in range(3):
            world.gone(f"p{at}")
        self.assertEqual(self.asked(world, "a1", "read", ("x",)), ("told", ()))

    def test_a_waiting_lease_that_is_settled_holds_up(self):
        world = self.with_file()
        for at in range(3):
            world.fall(f"p{at}")
        self.waits(world, "a1", "lease", ("x",), 20)
        self.assertEqual(world.order()[-1][4], ("lease", ("x",), 20))
        question = self.waits(world, "a0", "cut", ("x",), 1)
        world.tick(20)
        self.carry_all(world)
        self.assertEqual(world.answer(question)[0], DONE)

    def test_lost_without_a_tick_where_all_houses_are_heard(self):
        world = self.with_file()
        for at in range(3):
            world.bend(f"p{at}")
        question = world.ask("a1", ("read", ("x",)))
        now = world.now()
        self.carry_all(world)
        self.assertEqual((world.answer(question)[0][0], world.now()), ("lost", now))

    def test_all_houses_gone(self):
        world = self.with_file(pieces=2, copies=2)
        world.gone("p0")
        self.assertEqual(self.asked(world, "a1", "read", ("x",)), ("told", (1, 2, 3)))
        world.gone("p1")
        self.assertEqual(self.asked(world, "a1", "read", ("x",)), ("lost", ("p0", "p1")))
        self.assertIs(world.calm(), True)

    def test_all_houses_bent(self):
        world = self.with_file(pieces=2, copies=2)
        for house in ("p1", "p0", "p0"):
            world.bend(house)
        self.assertEqual(self.asked(world, "a1", "read", ("x",)), ("lost", ("p0", "p1")))
        self.assertIs(world.calm(), True)
        self.assertEqual(self.asked(world, "a1", "read", ("x",)), ("lost", ("p0", "p1")))

    def test_one_gone_one_bent(self):
        world = self.with_file(pieces=2, copies=2)
        world.fall("p1")
        world.bend("p1")
        world.gone("p0")
        self.waits(world, "a1", "read", ("x",))
        world.rise("p1")
        self.assertIs(world.calm(), True)
        self.assertEqual(world.told()[-1][3], ("lost", ("p0", "p1")))

    def test_a_house_that_never_had_them_is_waited_for_till_it_tells_so(self):
        world = self.with_file(data=None, pieces=2, copies=1)
        world.fall("p1")
        self.done(world, "a0", "write", ("x",), None, (5,))
        world.bend("p0")
        question = self.waits(world, "a1", "read", ("x",))
        world.rise("p1")
        self.assertIs(world.calm(), True)
        self.assertEqual(world.answer(question)[0], ("lost", ("p0",)))

    def test_what_is_told_as_lost(self):
        world = self.with_file(("root", "bob"), pieces=1, copies=1)
        self.done(world, "a0", "snap", (), "s")
        look = ("told", ("file", "root", "root", ("rw", "r", "r"), 3))
        world.gone("p0")
        lost = ("lost", ("p0",))
        self.assertEqual(self.asked(world, "a1", "read", ("x",)), lost)
        self.assertEqual(self.asked(world, "a1", "old", "s", ("x",)), lost)
        self.assertEqual(self.asked(world, "a1", "look", ("x",)), look)
        answer = self.asked(world, "a1", "lease", ("x",), 9)
        self.assertEqual(answer, ("told", ((look, lost), world.now() + 9)))
        question = world.ask("a1", ("read", ("x",)))
        self.assertEqual(world.answer(question)[0], lost)
        question = world.ask("a1", ("glance", ("read", ("x",))))
        self.assertEqual(world.answer(question)[0], lost)
        self.assertEqual(self.asked(world, "a0", "glance", ("read", ("x",))), lost)

    def test_what_is_cut_off_or_written_over_is_not_missed(self):
        world = self.with_file(pieces=2, copies=1)
        for house in ("p0", "p1"):
            world.bend(house)
        self.done(world, "a0", "write", ("x",), None, (4, 5))
        self.assertEqual(self.asked(world, "a1", "read", ("x",))[0], "lost")
        self.done(world, "a0", "write", ("x",), 0, (6, 7, 8))
        self.assertEqual(self.asked(world, "a1", "read", ("x",)), ("told", (6, 7, 8, 4, 5)))

    def test_bent_cells_are_never_told(self):
        for at in range(3):
            world = self.with_file()
            world.bend(f"p{at}")
            self.assertEqual(self.asked(world, "a1", "read", ("x",)), ("told", (1, 2, 3)))
            for other in range(3):
                if other != at:
                    world.gone(f"p{other}")
            word, told = self.asked(world, "a1", "read", ("x",))
            if word == "told":
                self.assertEqual(told, (1, 2, 3))
            else:
                self.assertEqual((word, list(told)), ("lost", sorted(set(told) & {"p0", "p1", "p2"})))


class FallenAskerTest(WorldCase):
    """What an asker asked ahead of a fall doesn't mix with what it asks behind it."""

    def with_two_files(self):
        world = self.with_file()
        self.done(world, "a0", "file", ("y",))
        self.done(world, "a0", "write", ("y",), None, (7, 8, 9, 10))
        self.assertIs(world.calm(), True)
        return world

    def asked_anew(self, world, first, second):
        """The answer to the second deed, the first one's asker fell while it waited."""
        for at in range(3):
            world.fall(f"p{at}")
        self.waits(world, "a0", *first)
        world.fall("a0")
        world.rise("a0")
        question = self.waits(world, "a0", *second)
        for at in range(3):
            world.rise(f"p{at}")
        for _ in range(3):
            self.carry_all(world)
            world.tick()
        return world.answer(question)[0]

    def test_two_readings(self):
        world = self.with_two_files()
        told = self.asked_anew(world, ("read", ("x",)), ("read", ("y",)))
        self.assertEqual(told, ("told", (7, 8, 9, 10)))
        self.assertIs(world.calm(), True)

    def test_two_writes(self):
        world = self.with_two_files()
        told = self.asked_anew(world, ("write", ("x",), None, (4,)), ("write", ("y",), 0, (5, 6)))
        self.assertEqual(told, DONE)
        self.assertEqual(self.asked(world, "a1", "read", ("y",)), ("told", (5, 6, 9, 10)))
        self.assertEqual(self.asked(world, "a1", "read", ("x",)), ("told", (1, 2, 3)))

    def test_a_reading_and_a_write(self):
        world = self.with_two_files()
        told = self.asked_anew(world, ("read", ("x",)), ("write", ("y",), 0, (5, 6)))
        self.assertEqual(told, DONE)
        world = self.with_two_files()
        told = self.asked_anew(world, ("write", ("y",), 0, (5, 6)), ("read", ("y",)))
        self.assertEqual(told, ("told", (7, 8, 9, 10)))

    def test_letters_of_the_first_come_late(self):
        world = self.with_two_files()
        for at in range(3):
            world.fall(f"p{at}")
        world.ask("a0", ("write", ("x",), None, (4,)))
        for number, _, _ in world.letters():
            world.double(number)
        late = [number for number, _, _ in world.letters()][-2:]
        for number, _, _ in world.letters():
            if number not in late:
                world.carry(number)
        world.fall("a0")
        world.rise("a0")
        question = world.ask("a0", ("read", ("y",)))
        for _ in range(3):
            for number, _, _ in world.letters():
                if number not in late:
                    world.carry(number)
            world.tick()
        for number in late:
            world.carry(number)
        for at in range(3):
            world.rise(f"p{at}")
        self.assertIs(world.calm(), True)
        self.assertEqual(world.answer(question)[0], ("told", (7, 8, 9, 10)))
        # No put of the first behind the second in the order.
        self.assertEqual(world.order()[-1][4], ("read", ("y",)))


    def test_a_calm_ends_what_nobody_waits_for(self):
        world = self.with_two_files()
        self.asked(world, "a1", "lease", ("y",), 30)
        self.waits(world, "a0", "write", ("y",), 0, (5, 6))
        world.fall("a0")
        self.assertIs(world.calm(), True)
        order = world.order()
        # Else these cells, in no file yet, might be lost one by one, and then be put.
        world.tick(35)
        self.carry_all(world)
        self.assertEqual(world.order(), order)
        self.assertEqual(self.asked(world, "a1", "read", ("y",)), ("told", (7, 8, 9, 10)))


class UnknownCopyTest(WorldCase):
    def test_a_copy_that_no_head_heard_of(self):
        """Of two houses that kept the cells, only one could tell so ahead of its loss."""
        world = self.with_file(data=None, pieces=2, copies=1)
        world.fall("p0")
        world.fall("p1")
        question = world.ask("a0", ("write", ("x",), None, (5, 6)))
        self.carry_all(world)
        world.rise("p0")
        world.rise("p1")
        told = []
        for _ in range(3):
            world.tick()
            for _ in range(40):
                for number, source, target in world.letters():
                    if source[0] == "p":
                        told.append(source)
                    # Only one house is heard.
                    silent = source[0] == "p" and source != told[0]
                    (world.lose if silent else world.carry)(number)
        self.assertEqual(world.answer(question)[0], DONE)
        self.assertEqual(set(told), {"p0", "p1"})
        world.gone(told[0])
        self.assertEqual(self.asked(world, "a1", "read", ("x",)), ("told", (5, 6)))


class LateLetterTest(WorldCase):
    """Letters to and from piece houses that come when all is otherwise."""

    def between(self, world, sources, targets):
        """The letters from some kind of houses to some kind."""
        return [row for row in world.letters() if row[1][0] in sources and row[2][0] in targets]

    def carry_but(self, world, sources, targets):
        """Carry all letters but those from some kind of houses to some kind."""
        while True:
            kept = self.between(world, sources, targets)
            letters = [row for row in world.letters() if row not in kept]
            if not letters:
                return
            world.carry(letters[0][0])

    def test_cells_that_come_to_a_house_that_is_being_emptied(self):
        world = self.with_file(data=None, pieces=2, copies=1)
        question = world.ask("a0", ("write", ("x",), None, (5, 6)))
        self.carry_but(world, "h", "p")
        emptied = self.between(world, "h", "p")[0][2]
        world.empty(emptied)
        self.carry_all(world)
        self.assertIsNone(world.answer(question))
        while world.answer(question) is None:
            world.tick()
            self.carry_all(world)
        world.gone(emptied)
        self.assertEqual(self.asked(world, "a1", "read", ("x",)), ("told", (5, 6)))

    def test_a_house_is_right_again_and_nobody_heard_of_it(self):
        world = self.with_file(pieces=2, copies=2)
        world.bend("p0")
        for _ in range(3):
            world.tick()
            self.carry_all_but_what_p0_kept(world)
        world.bend("p1")
        # Now only p0 has the cells right, but told last that they are bent.
        for _ in range(2):
            world.tick()
            for number, source, _ in world.letters():
                (world.lose if source == "p0" else world.carry)(number)
        self.assertIs(world.calm(), True)
        self.assertEqual(self.asked(world, "a1", "read", ("x",)), ("told", (1, 2, 3)))
        world.gone("p0")
        self.assertEqual(self.asked(world, "a1", "read", ("x",)), ("told", (1, 2, 3)))

    def carry_all_but_what_p0_kept(self, world):
        got = False
        while world.letters():
            number, source, target = world.letters()[0]
            got = got or (source, target) == ("p1", "p0")
            if got and source == "p0":
                world.lose(number)
            else:
                world.carry(number)

    def test_an_old_letter_of_a_bent_house(self):
        world = self.with_file(pieces=2, copies=2)
        world.bend("p0")
        world.tick()
        self.carry_but(world, "p", "h")
        late = []
        for number, _, _ in self.between(world, "p", "h"):
            world.double(number)
            late.append(world.letters()[-1][0])
        for _ in range(5):
            for number, _, _ in world.letters():
                if number not in late:
                    world.carry(number)
            world.tick()
        # By now p0 is right again, and has told so.
        while len(world.letters()) > len(late):
            world.carry([number for number, _, _ in world.letters() if number not in late][0])
        self.assertEqual([number for number, _, _ in world.letters()], late)
        self.carry_all(world)
        world.fall("p0")
        world.gone("p1")
        question = world.ask("a1", ("read", ("x",)))
        for _ in range(9):
            for number, _, _ in world.letters():
                world.carry(number)
            world.tick()
        self.assertIsNone(world.answer(question))
        world.rise("p0")
        self.assertIs(world.calm(), True)
        self.assertEqual(world.answer(question)[0], ("told", (1, 2, 3)))


class CopyTest(WorldCase):
    def test_copies_come_back(self):
        for word in ("gone", "bend", "empty"):
            for at in range(3):
                world = self.with_file(("root", "bob"))
                self.done(world, "a0", "snap", (), "s")
                self.done(world, "a0", "write", ("x",), 1, (9,))
                getattr(world, word)(f"p{at}")
                self.assertIs(world.calm(), True)
                for other in range(3):
                    if other != at:
                        world.gone(f"p{other}")
                        break
                self.assertEqual(self.asked(world, "a1", "read", ("x",)), ("told", (1, 9, 3)))
                self.assertEqual(self.asked(world, "a1", "old", "s", ("x",)), ("told", (1, 2, 3)))

    def test_an_emptied_house_may_go(self):
        world = self.with_file(pieces=5, copies=1)
        for at in range(4):
            world.empty(f"p{at}")
            self.assertIs(world.calm(), True)
            world.gone(f"p{at}")
            self.assertEqual(self.asked(world, "a1", "read", ("x",)), ("told", (1, 2, 3)))

    def test_what_an_emptied_house_alone_has_is_told(self):
        world = self.with_file(pieces=2, copies=1)
        world.empty("p0")
        world.empty("p1")
        self.assertEqual(self.asked(world, "a1", "read", ("x",)), ("told", (1, 2, 3)))

    def test_the_heads_know_it_both(self):
        """Copies that came back under one head are known to the other one."""
        for down in ("p1", "p2"):
            world = self.with_file(pieces=3, copies=2)
            world.gone("p0")
            self.assertIs(world.calm(), True)
            world.gone("h0")
            self.assertIs(world.alone(), True)
            world.bend({"p1": "p2", "p2": "p1"}[down])
            world.fall(down)
            question = self.waits(world, "a1", "read", ("x",))
            world.tick(20)
            self.carry_all(world)
            self.assertIsNone(world.answer(question))
            world.rise(down)
            self.assertIs(world.calm(), True)
            self.assertEqual(world.answer(question)[0], ("told", (1, 2, 3)))

    def test_a_calm_goes_on_till_a_head_heard_of_each_copy(self):
        for emptied, other in (("p0", "p1"), ("p1", "p0")):
            world = self.with_file(pieces=2, copies=1)
            world.empty(emptied)
            # Copies may come to the other house, but nothing that it tells comes to a head.
            for _ in range(4):
                world.tick()
                while world.letters():
                    number, source, _ = world.letters()[0]
                    (world.lose if source == other else world.carry)(number)
            self.assertIs(world.calm(), True)
            world.gone("h0")
            self.assertIs(world.alone(), True)
            world.gone(emptied)
            world.fall(other)
            question = self.waits(world, "a1", "read", ("x",))
            world.tick(20)
            self.carry_all(world)
            self.assertIsNone(world.answer(question))
            world.rise(other)
            self.assertIs(world.calm(), True)
            self.assertEqual(world.answer(question)[0], ("told", (1, 2, 3)))

    def test_calm_tells_false_while_a_piece_house_is_down(self):
        world = self.with_file()
        world.fall("p0")
        self.assertIs(world.calm(), False)
        world.rise("p0")
        self.assertIs(world.calm(), True)

    def test_many_pieces(self):
        world = self.with_file()
        for cell in range(60):
            self.done(world, "a0", "write", ("x",), None, (cell,))
        for house in ("p0", "p1", "p2", "p0", "p1", "p2"):
            world.bend(house)
            self.assertIs(world.calm(), True)
        wanted = ("told", (1, 2, 3) + tuple(range(60)))
        self.assertEqual(self.asked(world, "a1", "read", ("x",)), wanted)


if __name__ == "__main__":
    unittest.main()
