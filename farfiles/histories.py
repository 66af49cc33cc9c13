"""An order told to a plain tree, row by row, and only as far as something is asked of it."""

from farfiles.boards import askers_of
from farfiles.deeds import BINDING, CHANGING, REPEATED
from farfiles.groves import Grove
from farfiles.nodes import DONE


class History:
    """The rows of an order that were taken, and a plain tree that was told of them.

    The tree is told the rows up to the place needed, and of these only the deeds on
    which an answer that is asked for may hang: of promises, by which the NUMBER of a
    put is known, and of the judged questions.
    """

    def __init__(self, groups, users, needed, judged):
        self.grove = Grove(groups)
        self.users = askers_of(users)
        self.needed = needed
        self.judged = judged
        self.place = 0
        self.clock = 0
        # Of each asker its greatest question.
        self.newest = {asker: 0 for asker in self.users}
        # Of each question its last row, and the answer to it, if the tree was told of it.
        self.rows = {}
        self.outcomes = {}
        # Of each question that is a write the promise ahead of the put.
        self.promises = {}

    def takes(self, row):
        """Go on by the row, if it may stand behind those taken ahead: whether it may."""
        place, when, asker, question, deed = row
        newest = self.newest.get(asker)
        if newest is None or question < newest or place <= self.place or when < self.clock:
            return False
        if question in self.rows:
            if not self._goes_on(self.rows[question], asker, deed):
                return False
        elif deed[0] == "put":
            return False
        self.place = place
        self.clock = when
        self.newest[asker] = question
        self.rows[question] = row
        if place <= self.needed and self._is_asked_for(question, deed[0]):
            self.outcomes[question] = self.grove.reply(when, self.users[asker], deed)
        return True

    def has_changed(self, row):
        """Whether a sight may be another one by this row, the last one that was taken."""
        return row[4][0] in CHANGING and self.outcomes[row[3]] == DONE

    def _goes_on(self, ahead, asker, deed):
        """Whether a question with this row ahead may stand in the order once more."""
        _, _, known_asker, question, known = ahead
        if asker != known_asker:
            return False
        if known[0] != "promise":
            return deed == known and deed[0] in REPEATED
        self.promises[question] = known
        return deed[0] == "put" and self.outcomes[question] == ("done", deed[1])

    def _is_asked_for(self, question, word):
        """Whether an answer that is asked for may hang on the question's deed of this word."""
        if word in BINDING or question in self.judged:
            return True
        # Only what judged questions were told may hang on a snapshot.
        return word == "snap" and len(self.judged) > 0


def last_put(order):
    """Up to which place a tree must be told of the order, to know whether all may stand."""
    return max([row[0] for row in order if row[4][0] == "put"], default=0)


def stayed_sight(groups, users, order, user, path, place):
    """The sight of the path for the user behind each deed from this place on.

    None where it became another one, or where a row of the order may not stand.
    """
    history = History(groups, users, max([row[0] for row in order]), {})
    shown = None
    for row in order:
        if not history.takes(row):
            return None
        if row[0] >= place and (shown is None or history.has_changed(row)):
            sight = history.grove.view(user, path)
            if shown is not None and sight != shown:
                return None
            shown = sight
    return shown
