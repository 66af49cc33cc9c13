"""A desk: a World by rows of words."""

from farfiles.judging import judge
from farfiles.rows import read_row
from farfiles.sizes import COPIES, PIECES
from farfiles.worlds import World


class Desk:
    """Keeps a World, and answers each row with a text."""

    def __init__(self, users, *, groups=(), pieces=PIECES, copies=COPIES):
        world = World(users, groups=groups, pieces=pieces, copies=copies)
        self.world = world
        # What is done by a word with a number or a house behind it.
        self.changes = {
            "carry": world.carry, "lose": world.lose, "double": world.double, "tick": world.tick,
            "fall": world.fall, "rise": world.rise, "gone": world.gone, "bend": world.bend,
            "empty": world.empty,
        }
        self.users = users
        self.groups = groups
        # The deeds that were asked, by the question's number.
        self.deeds = []

    def say(self, row):
        """The answer to the row."""
        word, values = read_row(row)
        if word in self.changes:
            change = self.changes[word]
            change(values[0])
            return "ok"
        if word == "answer":
            return self._answer(values[0])
        if values:
            return self._ask(values[0], _deed_of(word, values[1:]))
        return self._tell(word)

    def _ask(self, asker, deed):
        question = self.world.ask(asker, deed)
        self.deeds.append(deed)
        return str(question)

    def _answer(self, question):
        told = self.world.answer(question)
        if told is None:
            return "open"
        answer = told[0]
        if answer[0] == "no":
            return " ".join(answer)
        if answer[0] == "told" and _is_of_cells(self.deeds[question]):
            return " ".join(["told", *[str(cell) for cell in answer[1]]])
        return answer[0]

    def _tell(self, word):
        world = self.world
        if word == "letters":
            return str(len(world.letters()))
        if word == "settled":
            return str(len(world.order()))
        if word == "alone":
            return _yes_or_no(world.alone())
        if word == "calm":
            return _yes_or_no(world.calm())
        return _yes_or_no(judge(self.groups, self.users, world.order(), world.told()) is None)


def _deed_of(word, values):
    """The deed that a row of this word asks for."""
    if word == "write":
        path, place, *data = values
        return ("write", path, place, tuple(data))
    if word == "glance":
        return ("glance", tuple(values))
    return (word, *values)


def _is_of_cells(deed):
    """Whether cells are told by it."""
    return deed[0] == "read" or (deed[0] == "glance" and deed[1][0] == "read")


def _yes_or_no(truth):
    return "yes" if truth else "no"
