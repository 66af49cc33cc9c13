"""Promises 3 and 15: only what no house that isn't gone has right is told as lost."""

import unittest

from world_cases import DONE, WorldCase
from worlds_watched import drawn_world

CELLS = ("told", (5, 6))
READINGS = (("read", ("f",)), ("old", "s", ("f",)), ("lease", ("f",), 30), ("glance", ("read", ("f",))))


def between(world, source, target):
    """The letters from houses to houses, of names that begin so."""
    return [row[0] for row in world.letters() if row[1].startswith(source) and row[2].startswith(target)]


class LostCase(WorldCase):
    def go_on(self, world, ticks, silent=()):
        """Let ticks go on, with all letters carried but those from the silent houses."""
        for _ in range(ticks):
            world.tick()
            self.carry_but(world, silent)

    def carry_but(self, world, silent):
        while world.letters():
            number, source, _ = world.letters()[0]
            (world.lose if source in silent else world.carry)(number)

    def inner(self, world, question):
        """The answer, of a lease the second one of its sight."""
        answer = world.answer(question)[0]
        return answer if len(answer) == 1 or not isinstance(answer[1][0], tuple) else answer[1][0][1]

    def with_unheard(self, snapped=False, users=("root",)):
        """A World whose write was told done by p1 and p2, while p0 kept it unheard."""
        world = self.with_file(users, data=None)
        self.done(world, "a0", "file", ("f",))
        write = world.ask("a0", ("write", ("f",), None, (5, 6)))
        while between(world, "a", "h") or between(world, "h", "h") or between(world, "h", "a"):
            for number in between(world, "a", "h") + between(world, "h", "h") + between(world, "h", "a"):
                world.carry(number)
        world.tick()
        self.assertNotEqual(between(world, "h", "p0"), [])
        for number in between(world, "h", "p0"):
            world.carry(number)
        for number in between(world, "p0", ""):
            world.lose(number)
        world.fall("p0")
        self.carry_all(world)
        self.assertEqual(world.answer(write)[0], DONE)
        if snapped:
            self.done(world, "a0", "snap", (), "s")
        return world


class DownTest(LostCase):
    def test_the_input_of_the_issue(self):
        world = self.with_unheard()
        world.gone("p1")
        world.gone("p2")
        question = world.ask("a0", ("read", ("f",)))
        self.go_on(world, 8)
        self.assertIsNone(world.answer(question))
        self.go_on(world, 80)
        self.assertIsNone(world.answer(question))
        world.rise("p0")
        self.go_on(world, 2)
        self.assertEqual(world.answer(question)[0], CELLS)

    def test_every_reading_waits(self):
        for deed in READINGS:
            world = self.with_unheard(snapped=True)
            world.gone("p1")
            world.gone("p2")
            question = world.ask("a0", deed)
            self.go_on(world, 12)
            self.assertIsNone(world.answer(question), deed)
            world.rise("p0")
            self.go_on(world, 2)
            self.assertEqual(self.inner(world, question), CELLS, deed)

    def test_bent_ones_beside_the_one_that_is_down(self):
        world = self.with_unheard()
        world.bend("p1")
        world.gone("p2")
        question = self.waits(world, "a0", "read", ("f",))
        self.go_on(world, 12)
        self.assertIsNone(world.answer(question))
        self.assertIs(world.calm(), False)
        self.assertIsNone(world.answer(question))
        world.rise("p0")
        self.assertIs(world.calm(), True)
        self.assertEqual(world.answer(question)[0], CELLS)

    def test_two_pieces_of_which_one_is_right_with_it_alone(self):
        for place in (None, 0):
            world = self.with_unheard()
            # The second write comes to p1 and p2 alone.
            self.done(world, "a0", "write", ("f",), place, (9,))
            told = ("told", (5, 6, 9) if place is None else (9, 6))
            self.assertEqual(self.asked(world, "a0", "read", ("f",)), told)
            question = world.ask("a0", ("read", ("f",)))
            world.bend("p1")
            world.lose(between(world, "a0", "h0")[0])
            world.lose(between(world, "a0", "h1")[0])
            self.go_on(world, 3)
            self.assertEqual(world.answer(question)[0], told)
            world.gone("p2")
            question = world.ask("a0", ("read", ("f",)))
            self.go_on(world, 12, silent=("p1",))
            # Some may be lost, some is with p0, which is down: waiting or lost.
            if world.answer(question) is not None:
                self.assertEqual(world.answer(question)[0][0], "lost")
            world.rise("p0")
            self.assertIs(world.calm(), True)

    def test_emptied_and_down(self):
        world = self.with_unheard()
        world.empty("p0")
        world.gone("p1")
        world.gone("p2")
        question = self.waits(world, "a0", "read", ("f",))
        world.rise("p0")
        self.carry_all(world)
        self.go_on(world, 2)
        self.assertEqual(world.answer(question)[0], CELLS)

    def test_a_head_that_fell_asks_anew(self):
        world = self.with_unheard()
        world.gone("p1")
        world.gone("p2")
        question = self.waits(world, "a0", "read", ("f",))
        world.fall("h0")
        world.rise("h0")
        self.go_on(world, 12)
        self.assertIsNone(world.answer(question))
        world.rise("p0")
        self.assertIs(world.calm(), True)
        self.assertEqual(world.answer(question)[0], CELLS)


class SilentTest(LostCase):
    def test_a_house_that_is_up_and_unheard(self):
        for deed in READINGS:
            world = self.with_unheard(snapped=True)
            world.rise("p0")
            world.gone("p1")
            world.gone("p2")
            question = world.ask("a0", deed)
            self.carry_but(world, ("p0",))
            self.go_on(world, 20, silent=("p0",))
            self.assertIsNone(world.answer(question), deed)
            self.go_on(world, 2)
            self.assertEqual(self.inner(world, question), CELLS, deed)

    def test_a_house_that_hears_nothing(self):
        world = self.with_unheard()
        world.rise("p0")
        world.gone("p1")
        world.gone("p2")
        question = world.ask("a0", ("read", ("f",)))
        for _ in range(20):
            while world.letters():
                number, _, target = world.letters()[0]
                (world.lose if target == "p0" else world.carry)(number)
            world.tick()
        self.assertIsNone(world.answer(question))
        self.assertIs(world.calm(), True)
        self.assertEqual(world.answer(question)[0], CELLS)


class LostTest(LostCase):
    def test_lost_once_all_that_are_left_told_so(self):
        for lost in (("gone", "gone"), ("bend", "gone"), ("bend", "bend")):
            for deed in READINGS:
                world = self.with_file(("root",), data=None, copies=2)
                self.done(world, "a0", "file", ("f",))
                self.done(world, "a0", "write", ("f",), None, (5, 6))
                self.done(world, "a0", "snap", (), "s")
                # Whoever kept them, all but one are lost; that one never had them, or is bent.
                world.gone("p0")
                for house, word in zip(("p1", "p2"), lost):
                    getattr(world, word)(house)
                question = world.ask("a0", deed)
                self.carry_all(world)
                self.go_on(world, 2)
                word, houses = self.inner(world, question)
                self.assertEqual((word, list(houses)), ("lost", sorted(houses)))
                self.assertGreaterEqual(len(houses), 2)
                self.assertIs(world.calm(), True)
                self.assertEqual(self.inner(world, question), ("lost", houses))

    def test_a_house_that_never_had_them_has_to_tell_so(self):
        world = self.with_file(("root",), data=None, pieces=2, copies=1)
        world.fall("p1")
        self.done(world, "a0", "write", ("x",), None, (5,))
        world.gone("p0")
        question = self.waits(world, "a0", "read", ("x",))
        world.rise("p1")
        self.go_on(world, 8, silent=("p1",))
        self.assertIsNone(world.answer(question))
        self.go_on(world, 2)
        self.assertEqual(world.answer(question)[0], ("lost", ("p0",)))
        self.assertIs(world.calm(), True)

    def test_what_a_house_told_ahead_of_its_fall_counts(self):
        world = self.with_file(("root",), pieces=2, copies=2)
        world.bend("p1")
        world.gone("p0")
        lost = ("lost", ("p0", "p1"))
        self.assertEqual(self.asked(world, "a0", "read", ("x",)), lost)
        world.fall("p1")
        self.assertEqual(self.asked(world, "a0", "read", ("x",)), lost)

    def test_a_bent_house_that_was_unheard_had_them_too(self):
        world = self.with_unheard()
        for house in ("p0", "p1", "p2"):
            world.bend(house)
        question = self.waits(world, "a0", "read", ("f",))
        world.rise("p0")
        self.go_on(world, 2)
        self.assertEqual(world.answer(question)[0], ("lost", ("p0", "p1", "p2")))

    def test_cells_on_their_way_come_too_late(self):
        """A house that told that it hasn't the cells doesn't get them by an old letter."""
        world = self.with_file(("root",), data=None)
        write = world.ask("a0", ("write", ("x",), None, (7, 8)))
        # The two houses that are asked first are unheard, till p0 is asked, too.
        while not between(world, "h", "p0"):
            for number, source, _ in world.letters():
                (world.lose if source[0] == "p" else world.carry)(number)
            world.tick()
        late = between(world, "h", "p0")
        while world.answer(write) is None:
            for number, _, _ in world.letters():
                if number not in late:
                    world.carry(number)
        world.gone("p1")
        world.gone("p2")
        reading = world.ask("a0", ("read", ("x",)))
        for _ in range(4):
            for number, _, _ in world.letters():
                if number not in late:
                    world.carry(number)
            world.tick()
        self.assertEqual(world.answer(reading)[0], ("lost", ("p1", "p2")))
        for number in late:
            world.carry(number)
        self.assertIs(world.calm(), True)
        self.assertEqual(self.asked(world, "a0", "read", ("x",)), ("lost", ("p1", "p2")))


class OrderedTest(LostCase):
    """Copies that are on their way when cells are asked for."""

    def with_a_copy_on_its_way(self):
        """A World where p2 told that its cells are bent, and p1, that had them right, sent them and is gone."""
        world = self.with_file(("root",), data=None)
        self.done(world, "a0", "write", ("x",), None, (7, 8))
        self.assertIs(world.calm(), True)
        world.bend("p2")
        copy = []
        while not copy:
            world.tick()
            while world.letters() and not copy:
                copy = between(world, "p1", "p2")
                # What p0 would get is lost.
                to_first = between(world, "p1", "p0")
                if to_first:
                    world.lose(to_first[0])
                elif not copy:
                    world.carry(world.letters()[0][0])
        for number, _, _ in world.letters():
            if number not in copy:
                world.lose(number)
        world.gone("p1")
        return world, copy

    def read_but(self, world, late):
        """The answer to a reading, behind some ticks, with these letters not carried."""
        question = world.ask("a0", ("read", ("x",)))
        self.go_on_but(world, 4, late)
        return world.answer(question)

    def go_on_but(self, world, ticks, late):
        """Carry all but these letters, then let a tick go on, so many times."""
        for _ in range(ticks):
            for _ in range(9):
                for number, _, _ in world.letters():
                    if number not in late:
                        world.carry(number)
            world.tick()

    def test_it_comes_ahead_of_the_reading(self):
        world, copy = self.with_a_copy_on_its_way()
        for number in copy:
            world.carry(number)
        self.assertEqual(self.asked(world, "a0", "read", ("x",)), ("told", (7, 8)))

    def test_it_comes_behind_the_reading(self):
        world, copy = self.with_a_copy_on_its_way()
        self.assertEqual(self.read_but(world, copy)[0], ("lost", ("p1", "p2")))
        for number in copy:
            world.carry(number)
        self.assertIs(world.calm(), True)
        self.assertEqual(self.asked(world, "a0", "read", ("x",)), ("lost", ("p1", "p2")))

    def test_it_comes_behind_the_reading_and_the_head_forgot_of_it(self):
        for asked_ahead in (True, False):
            world, copy = self.with_a_copy_on_its_way()
            world.fall("h0")
            world.rise("h0")
            # By then p2 told anew that its cells are bent.
            self.go_on_but(world, 3 * asked_ahead, copy)
            self.assertEqual(self.read_but(world, copy)[0], ("lost", ("p1", "p2")))
            for number in copy:
                world.carry(number)
            self.assertIs(world.calm(), True)
            self.assertEqual(self.asked(world, "a0", "read", ("x",)), ("lost", ("p1", "p2")))

    def test_it_comes_while_the_house_is_not_heard(self):
        world, copy = self.with_a_copy_on_its_way()
        question = world.ask("a0", ("read", ("x",)))
        for _ in range(4):
            while [row for row in world.letters() if row[0] not in copy]:
                number, source, target = [row for row in world.letters() if row[0] not in copy][0]
                (world.lose if "p2" in (source, target) else world.carry)(number)
            world.tick()
        self.assertIsNone(world.answer(question))
        for number in copy:
            world.carry(number)
        self.go_on(world, 2)
        self.assertEqual(world.answer(question)[0], ("told", (7, 8)))

    def test_what_a_house_told_ahead_of_a_heads_fall(self):
        """An old letter comes late, by which the cells were bent that are right since."""
        world = self.with_file(("root",))
        world.bend("p2")
        world.tick()
        while not between(world, "p2", "h0"):
            world.carry(world.letters()[0][0])
        world.double(between(world, "p2", "h0")[0])
        late = between(world, "p2", "h0")[-1:]
        self.go_on_but(world, 6, late)
        self.go_on_but(world, 1, late)
        # By now p2 has them right again.
        world.fall("h0")
        world.rise("h0")
        world.carry(late[0])
        world.fall("p2")
        world.gone("p1")
        question = world.ask("a0", ("read", ("x",)))
        self.carry_all(world)
        self.go_on(world, 9)
        self.assertIsNone(world.answer(question))
        world.rise("p2")
        self.assertIs(world.calm(), True)
        self.assertEqual(world.answer(question)[0], ("told", (1, 2, 3)))

    def test_what_a_head_ordered_that_leads_no_more(self):
        """A head that doesn't know that the other one goes on alone has copies made in vain."""
        world = self.with_file(("root",))
        world.fall("h0")
        self.assertIs(world.alone(), True)
        world.rise("h0")
        world.bend("p2")
        question = world.ask("a0", ("read", ("x",)))
        for source, target in (("a0", "h1"), ("h1", "p0"), ("p0", "h1")):
            for number in between(world, source, target):
                world.carry(number)
        # From here on the piece houses hear only h0, and copies come to p0 alone.
        for _ in range(12):
            for _ in range(9):
                for number, source, target in world.letters():
                    heard = "h1" not in (source, target) and source != "a0" and (source, target) != ("p1", "p2")
                    (world.carry if heard else world.lose)(number)
            world.tick()
        world.fall("p0")
        world.gone("p1")
        for _ in range(9):
            for _ in range(9):
                for number, source, target in world.letters():
                    (world.lose if "h0" in (source, target) else world.carry)(number)
            world.tick()
        first = world.answer(question)
        world.rise("p0")
        self.assertIs(world.calm(), True)
        second = self.asked(world, "a0", "read", ("x",))
        if first is not None:
            self.assertEqual(first[0], second)


class DrawnTest(unittest.TestCase):
    def test_drawn_rows_of_lost_cells(self):
        """What was told as lost is never told again: see check_lost_stays."""
        seen = 0
        for seed in range(200, 260):
            with self.subTest(seed=seed):
                watched = drawn_world(self, seed, 500, "cells")
                seen += len([row for row in watched.world.told() if row[3][0] == "lost"])
        self.assertGreater(seen, 20)

    def test_drawn_rows_of_unheard_houses(self):
        seen = 0
        for seed in range(60):
            with self.subTest(seed=seed):
                watched = drawn_world(self, seed, 700, "unheard")
                seen += len([row for row in watched.world.told() if row[3][0] == "lost"])
        self.assertGreater(seen, 20)


if __name__ == "__main__":
    unittest.main()
