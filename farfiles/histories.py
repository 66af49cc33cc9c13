"""An order told to a plain tree, row by row, and what it tells of each question."""

from farfiles.boards import askers_of
from farfiles.deeds import REPEATED
from farfiles.trees import Tree


class Settled:
    """What an order has of a question: its asker, its deeds, and the last one's answer."""

    def __init__(self, asker):
        self.asker = asker
        self.deeds = []
        self.place = 0
        self.outcome = None


class History:
    """A plain tree that has been told an order up to some row."""

    def __init__(self, groups, users):
        self.tree = Tree(groups)
        self.users = askers_of(users)
        self.place = 0
        self.clock = 0
        self.questions = {}
        # Of each asker its greatest question.
        self.newest = {}

    def may_stand(self, row):
        """Whether the row may stand behind those told ahead."""
        place, when, asker, question, deed = row
        if place <= self.place or when < self.clock or asker not in self.users:
            return False
        if question < self.newest.get(asker, 0):
            return False
        if question not in self.questions:
            return deed[0] != "put"
        return _goes_on(self.questions[question], asker, deed)

    def go_on(self, row):
        """Tell the tree the row's deed: its answer."""
        place, when, asker, question, deed = row
        self.place = place
        self.clock = when
        self.newest[asker] = question
        settled = self.questions.setdefault(question, Settled(asker))
        settled.deeds.append(deed)
        settled.place = place
        settled.outcome = self.tree.do(when, self.users[asker], deed)
        return settled.outcome


def sights_from(groups, users, order, user, path, place):
    """What sight of the path tells the user behind each deed from this place on."""
    history = History(groups, users)
    sights = []
    for row in order:
        history.go_on(row)
        if row[0] >= place:
            sights.append(history.tree.sight(user, path))
    return sights


def _goes_on(settled, asker, deed):
    """Whether the question, whose asker this is, may stand in the order once more."""
    if asker != settled.asker:
        return False
    ahead = settled.deeds[-1]
    if ahead[0] == "promise":
        return deed[0] == "put" and settled.outcome == ("done", deed[1])
    return deed == ahead and deed[0] in REPEATED
