"""A Tree that a test tells deeds in short."""

from farfiles.trees import Tree

DONE = ("done",)


def path(text):
    """The path of names with / between; the empty text is the top."""
    return tuple(text.split("/")) if text else ()


class Garden:
    """A Tree, its tick, and a case that checks what is told."""

    def __init__(self, case, groups=()):
        self.case = case
        self.tree = Tree(groups)
        self.tick = 0

    def do(self, user, *deed):
        return self.tree.do(self.tick, user, deed)

    def done(self, user, *deed):
        self.case.assertEqual(self.do(user, *deed), DONE, deed)

    def no(self, word, user, *deed):
        self.case.assertEqual(self.do(user, *deed), ("no", word), (user, deed))

    def told(self, value, user, *deed):
        self.case.assertEqual(self.do(user, *deed), ("told", value), (user, deed))

    def make(self, user, *rows):
        """Folders, of names that end with /, and files, all of this user."""
        for row in rows:
            word = "folder" if row.endswith("/") else "file"
            self.done(user, word, path(row.rstrip("/")))

    def write(self, user, where, data, place=None):
        answer = self.do(user, "promise", path(where), place, len(data))
        self.case.assertEqual(answer[0], "done", answer)
        self.done(user, "put", answer[1], tuple(data))

    def names(self, where):
        told = self.do("root", "list", path(where))
        return [name for name, _ in told[1]]

    def cells(self, where):
        return self.do("root", "read", path(where))[1]

    def use(self, where):
        return self.do("root", "use", path(where))[1][0]

    def held(self, user):
        return self.do("root", "held", user)[1][0]
