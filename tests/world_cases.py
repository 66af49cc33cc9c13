"""What the tests of single Worlds have in common."""

import unittest

from farfiles.worlds import World

DONE = ("done",)


class WorldCase(unittest.TestCase):
    def carry_all(self, world):
        while world.letters():
            world.carry(world.letters()[0][0])

    def asked(self, world, asker, *deed):
        """The answer, when all letters are carried, perhaps behind some ticks."""
        question = world.ask(asker, deed)
        for _ in range(60):
            self.carry_all(world)
            if world.answer(question) is not None:
                return world.answer(question)[0]
            world.tick()
        return None

    def done(self, world, asker, *deed):
        self.assertEqual(self.asked(world, asker, *deed), DONE, deed)

    def waits(self, world, asker, *deed):
        """Ask it, and see it wait for three ticks: its question."""
        question = world.ask(asker, deed)
        for _ in range(3):
            self.carry_all(world)
            world.tick()
        self.carry_all(world)
        self.assertIsNone(world.answer(question), deed)
        return question

    def with_file(self, users=("ann", "bob"), data=(1, 2, 3), **named):
        """A World with the file x, which has these cells."""
        world = World(users, **named)
        self.done(world, "a0", "file", ("x",))
        if data:
            self.done(world, "a0", "write", ("x",), None, data)
        self.assertIs(world.calm(), True)
        return world
