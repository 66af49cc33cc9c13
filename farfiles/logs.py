"""The log of a head, and what it makes of the tree."""

from farfiles.cores import Core, trial_of
from farfiles.deeds import CHANGING


class Row:
    """One row of a log: a deed of a question, in the place of DATA how many cells.

    The era tells who wrote it: of one era and one place there is one row. A put
    has the houses that kept its cells. A row without an asker is the houses' own:
    its deed tells which house has got the cells of a piece, too.
    """

    def __init__(self, era, when, asker, question, deed, houses):
        self.era = era
        self.when = when
        self.asker = asker
        self.question = question
        self.deed = deed
        self.houses = houses


class Record:
    """What stands in a log of an asker's last question: (PLACE, TICK, DEED, ANSWER)."""

    def __init__(self, question):
        self.question = question
        self.placed = []


class State:
    """The tree, the last questions, the leases and the copies behind a log."""

    def __init__(self, board):
        self.board = board
        self.core = Core(board.groups)
        self.records = {}
        # For an asker and a path UNTIL.
        self.leases = {}
        # For a piece the houses that are known to have had it.
        self.had = {}
        self._live = None

    def apply(self, place, row):
        """Go on by the row at this place."""
        if row.asker is None:
            _, piece, house = row.deed
            self.had[piece][house] = True
            return
        user = self.board.users[row.asker]
        raw = self.core.act(row.when, user, row.deed)
        self._live = None
        self._note_lease(row, raw)
        if row.deed[0] == "put":
            self.had[row.deed[1]] = {house: True for house in row.houses}
        record = self.records.get(row.asker)
        if record is None or record.question != row.question:
            record = Record(row.question)
            self.records[row.asker] = record
        record.placed.append((place, row.when, row.deed, raw))

    def live_pieces(self):
        """The pieces that a file or a snapshot has."""
        if self._live is None:
            self._live = self.core.live_pieces()
        return self._live

    def is_held_up(self, asker, deed):
        """Whether the deed must wait at this tick for a lease of another asker."""
        if deed[0] not in CHANGING:
            return False
        sights = self._leased_by_others(asker)
        if not sights:
            return False
        trial = trial_of(self.core)
        trial.act(self.board.clock, self.board.users[asker], deed)
        return any([self.core.seen(user, path) != trial.seen(user, path) for user, path in sights])

    def _leased_by_others(self, asker):
        """(USER, PATH) of each lease of another asker that stands at this tick."""
        sights = []
        for (other, path), until in self.leases.items():
            if other != asker and self.board.clock < until:
                sights.append((self.board.users[other], path))
        return sights

    def _note_lease(self, row, raw):
        if row.deed[0] == "lease":
            self.leases[(row.asker, row.deed[1])] = raw[1][1]
        elif row.deed[0] == "back":
            self.leases.pop((row.asker, row.deed[1]), None)
