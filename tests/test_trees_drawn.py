"""Promises 6 to 8: drawn rows of deeds, each held against a second, simple tree."""

import unittest

from farfiles.trees import Tree
from plain_model import Model
from worlds_watched import Draw, drawn_path

GROUPS = (("root", ("ann", "eve")), ("staff", ("ann", "bob")))
USERS = ("ann", "bob", "eve", "root")
WORDS = (
    "folder", "folder", "file", "file", "file", "link", "link", "link", "move", "move", "move", "strike", "cut",
    "rights", "rights", "read", "read", "list", "look", "sight", "limit", "limit", "share",
    "promise", "promise", "promise", "promise", "promise", "put", "put", "put", "put", "put", "use", "held",
    "snap", "old", "old", "lease", "back",
)
PLACES = (None, None, 0, 1, 2, 3, 9)
BOUNDS = (None, 2, 4, 6, 8, 12)
TEXTS = ("", "r", "w") + ("rw",) * 9


NAMES = ("a", "b", "c", "d", "e")

# What a drawn row begins with, so that there's something to come to.
AHEAD = (
    ("folder", ("a",)), ("folder", ("a", "a")), ("folder", ("a", "a", "a")),
    ("folder", ("b",)), ("folder", ("b", "b")), ("folder", ("b", "b", "b")),
    ("file", ("a", "d")), ("file", ("b", "d")), ("link", ("b", "d"), ("a", "a", "d")),
    ("promise", ("a", "d"), None, 4), ("put", 1, (1, 2, 3, 4)), ("limit", ("b",), 6),
    ("promise", ("b", "d"), None, 3), ("put", 2, (5, 6, 7)),
)


def some_path(draw, model):
    """A path, mostly one that is there or could be."""
    known = sorted(model.paths()) + [()]
    if draw.chance(50):
        return draw.one(known)
    if draw.chance(70):
        return (draw.one(folders(model)) + (draw.one(NAMES),))[:6]
    return drawn_path(draw) + drawn_path(draw)


def folders(model):
    known = [path for path in sorted(model.paths()) if not is_file(model, path)]
    return known + [()]


def file_path(draw, model):
    """The path of a file, mostly."""
    files = [path for path in sorted(model.paths()) if is_file(model, path)]
    return draw.one(files) if files and draw.chance(85) else some_path(draw, model)


def is_file(model, path):
    return model.nodes[model.come("root", path)]["kind"] == "file"


def drawn(draw, model):
    word = draw.one(WORDS)
    path = some_path(draw, model)
    if word in ("link", "cut", "read", "promise"):
        path = file_path(draw, model)
    if word in ("link", "move"):
        return (word, path, some_path(draw, model))
    if word == "cut":
        return (word, path, draw.below(6))
    if word == "rights":
        rights = tuple([draw.one(TEXTS) for _ in range(3)])
        return (word, path, draw.one(USERS), draw.one(("root", "staff", "none")), rights)
    if word == "limit":
        return (word, path, draw.one(BOUNDS))
    if word == "share":
        return (word, draw.one(USERS), draw.one(BOUNDS))
    if word == "held":
        return (word, draw.one(USERS))
    if word == "snap":
        return (word, path, draw.one(("x", "y", "z", "v")))
    if word == "old":
        return (word, draw.one(("x", "y", "z", "v")), path)
    if word == "lease":
        return (word, path, 1 + draw.below(30))
    if word == "promise":
        return (word, path, draw.one(PLACES), 1 + draw.below(4))
    if word == "put":
        number = max(0, model.made - draw.below(5))
        return (word, number, tuple([draw.below(9) - 4 for _ in range(1 + draw.below(4))]))
    return (word, path)


class DrawnTest(unittest.TestCase):
    def run_drawn(self, seed, steps):
        draw = Draw(seed)
        groups = GROUPS if draw.chance(70) else ()
        tree, model = Tree(groups), Model(groups)
        tick, wanted_size = 0, {}
        for deed in AHEAD:
            self.assertEqual(tree.do(0, "ann", deed), model.do(0, "ann", deed))
        for step in range(steps):
            tick += draw.below(draw.one((1, 1, 1, 2, 2, 3, 15)))
            user = draw.one(USERS + ("root",) * 3)
            deed = drawn(draw, model)
            if deed[0] == "put" and draw.chance(80) and deed[1] in model.promises:
                row = model.promises[deed[1]]
                user, deed = row["user"], ("put", deed[1], (deed[2] * 4)[:row["many"]])
            wanted = model.do(tick, user, deed)
            self.assertEqual(tree.do(tick, user, deed), wanted, (seed, step, tick, user, deed))
            path = some_path(draw, model)
            self.assertEqual(tree.sight(user, path), model.sight(user, path))
            key = (deed[0], wanted if wanted[0] == "no" else wanted[0])
            wanted_size[key] = wanted_size.get(key, 0) + 1
        return wanted_size

    def test_drawn_rows(self):
        seen = {}
        for seed in range(25):
            for key, many in self.run_drawn(seed, 250).items():
                seen[key] = seen.get(key, 0) + many
        # The rows reach all of this, or they show little.
        for word in ("link", "move", "rights", "limit", "share", "promise"):
            self.assertIn((word, ("no", "noroom")), seen)
        for key in (("put", "done"), ("put", ("no", "late")), ("promise", "done")):
            self.assertIn(key, seen)
        for word in ("ring", "top", "stands", "nothere", "nofolder", "noright"):
            self.assertIn(("move", ("no", word)), seen)
        self.assertIn(("old", "told"), seen)


if __name__ == "__main__":
    unittest.main()
