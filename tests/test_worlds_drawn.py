"""Promise 3: long drawn rows of all that can be done to a World.

All that it tells is held against a plain Tree that is told the same deeds in the
World's order, and against what its askers were told ahead: see worlds_watched.
"""

import unittest

from farfiles.worlds import World
from worlds_watched import Draw, drawn_world


class DrawnTest(unittest.TestCase):
    def run_kind(self, kind, seeds, steps):
        """How often each word was told, by its kind of answer."""
        seen = {}
        for seed in range(seeds):
            with self.subTest(seed=seed):
                watched = drawn_world(self, seed, steps, kind)
                for _, _, deed, answer, _, age, _ in watched.world.told():
                    for key in ((deed[0], answer[0]), (deed[0], "old" if age else "new")):
                        seen[key] = seen.get(key, 0) + 1
        return seen

    def test_all(self):
        seen = self.run_kind("all", 60, 700)
        for word in ("folder", "file", "cut", "rights", "write", "strike", "snap", "back"):
            self.assertIn((word, "done"), seen)
        for word in ("read", "list", "look", "use", "held", "lease", "glance"):
            self.assertIn((word, "told"), seen)

    def test_leases(self):
        seen = self.run_kind("leases", 60, 700)
        for key in (("lease", "told"), ("back", "done"), ("write", "done"), ("glance", "old")):
            self.assertIn(key, seen)

    def test_cells(self):
        seen = self.run_kind("cells", 60, 700)
        for key in (("read", "lost"), ("old", "lost"), ("old", "told"), ("write", "done")):
            self.assertIn(key, seen)

    def test_heads(self):
        seen = self.run_kind("heads", 60, 700)
        for key in (("read", "told"), ("write", "done"), ("folder", "done")):
            self.assertIn(key, seen)


class SameTest(unittest.TestCase):
    def test_two_worlds_told_the_same_tell_the_same(self):
        told = []
        for _ in range(2):
            watched = drawn_world(self, 4, 500, "all")
            told.append((watched.world.letters(), watched.world.order(), watched.world.told()))
        self.assertEqual(told[0], told[1])

    def test_two_worlds_side_by_side(self):
        one, two = World(("ann",)), World(("ann",))
        for world in (one, two):
            self.assertEqual(world.ask("a0", ("file", ("x",))), 0)
        self.assertEqual(one.letters(), two.letters())
        one.calm()
        self.assertEqual(two.order(), ())
        self.assertNotEqual(two.letters(), ())
        two.calm()
        self.assertEqual(one.told(), two.told())


class LettersAloneTest(unittest.TestCase):
    def test_any_turn_without_a_calm(self):
        """Letters carried from the newest to the oldest, doubled, and nothing else."""
        for seed in range(20):
            draw = Draw(seed)
            world = World(("ann", "bob"))
            questions = []
            for name in ("x", "y", "z"):
                questions.append(world.ask("a0", ("file", (name,))))
                questions.append(world.ask("a1", ("file", (name, name))))
                for _ in range(200):
                    letters = world.letters()
                    if not letters:
                        world.tick()
                    elif draw.chance(10):
                        world.double(letters[-1][0])
                    else:
                        world.carry(letters[-1][0])
            told = [world.answer(at)[0] for at in questions]
            self.assertEqual(told[::2], [("done",)] * 3)
            self.assertLessEqual(set(told[1::2]), {("no", "nofolder"), ("no", "nothere")})
            self.assertEqual(len(world.order()), 6)


if __name__ == "__main__":
    unittest.main()
