"""The head houses: a log that both keep, which one of them leads.

Of one era one head leads: at first and behind a calm h0, which has each row of
its log settled when the other head has it, too; a head that goes on alone leads
in an era of its own, in which each row is settled as it is written.
"""

from farfiles.boards import HEADS
from farfiles.clerks import Clerk
from farfiles.logs import Row, State
from farfiles.stewards import Steward

# So many rows at most stand in one letter.
BATCH = 50


class Head:
    """A head house: what it keeps for good, and what it forgets with a fall."""

    def __init__(self, name, board, post, ledger):
        self.name = name
        self.peer = HEADS[1] if name == HEADS[0] else HEADS[0]
        self.board = board
        self.post = post
        self.ledger = ledger
        self.era = 0
        self.leader = HEADS[0]
        self.single = False
        # How often it lost what isn't kept for good; with the era the term it speaks in.
        self.lives = 0
        self.log = []
        self.state = State(board)
        self.forget()
        self.is_shared_known = True

    def forget(self):
        """Lose what isn't kept for good."""
        self.lives += 1
        self.term = (self.era, self.lives)
        # How many rows the other head has, at least, and whether there's more to learn.
        self.shared = 0
        self.is_shared_known = False
        self.settled = len(self.log) if self.single else 0
        self.steward = Steward(self)
        self.clerk = Clerk(self)

    def rest(self):
        """Drop the questions that nobody waits for any more."""
        self.clerk = Clerk(self)

    def leads(self):
        """Whether this head leads, as far as it knows."""
        return self.leader == self.name

    def go_alone(self, era):
        """Lead alone from now on, in an era of its own."""
        self._begin(era, self.name, True)
        self._settle(len(self.log))

    def be_two(self, era):
        """Be two heads again from now on; both have all that the other one has."""
        self._begin(era, HEADS[0], False)
        self.shared = len(self.log)
        self.is_shared_known = True
        self.settled = len(self.log)

    def send(self, house, text):
        """Send a letter."""
        self.post.send(self.name, house, text)

    def write(self, asker, question, deed, houses):
        """Write a row behind the log."""
        row = Row(self.era, self.board.clock, asker, question, deed, houses)
        self.log.append(row)
        self.state.apply(len(self.log), row)
        if self.single:
            self._settle(len(self.log))
        self._pass_on()

    def note_copy(self, piece, house):
        """Write down that the house has got this piece, too."""
        if self.leads():
            self.write(None, None, ("has", piece, house), ())

    def pass_tick(self):
        """Send again what may have gone astray."""
        if not self.leads():
            return
        self._pass_on()
        self.steward.pass_tick()
        self.clerk.pass_tick()

    def take(self, source, text):
        """Do what the letter from this house says."""
        word = text[0]
        if word == "ask":
            if self.leads():
                self.clerk.hear(source, text[1], text[2])
        elif word == "log":
            self._take_log(text[1], text[2], text[3], text[4], text[5])
        elif word == "have":
            self._take_count(text[1], text[2])
        else:
            self._take_report(source, word, text[1], text[2], text[3])

    def _begin(self, era, leader, single):
        self.era = era
        self.leader = leader
        self.single = single
        self.forget()

    def _settle(self, many):
        self.settled = max(self.settled, many)
        self.ledger.settle(self.log, self.settled)

    def _pass_on(self):
        """Send the other head the rows that it may lack."""
        if self.peer in self.board.away:
            return
        if self.is_shared_known and self.shared == len(self.log):
            return
        # Where nothing is known, ask by the last place whether all is there.
        start = self.shared if self.is_shared_known else len(self.log)
        rows = tuple(self.log[start:start + BATCH])
        ahead = self.log[start - 1].era if start > 0 else None
        text = ("log", self.era, start, ahead, rows, len(self.log))
        self.send(self.peer, text)

    def _take_log(self, era, start, ahead, rows, total):
        """Have these rows behind the first so many, if those are like the leader's."""
        if era < self.era or (era == self.era and self.leads()):
            return
        if era > self.era:
            self._begin(era, self.peer, False)
        self._strike_stale(total)
        many = 0
        if start == 0 or (start <= len(self.log) and self.log[start - 1].era == ahead):
            self._adopt(start, rows)
            many = start + len(rows)
        # Where the rows don't fit, all are asked for from the first one on.
        self.send(self.peer, ("have", self.era, many))

    def _strike_stale(self, total):
        """Strike rows of older eras where the leader writes, or will write, its own."""
        if len(self.log) > total and self.log[total].era < self.era:
            self._shorten(total)

    def _adopt(self, start, rows):
        for at, row in enumerate(rows, start=start):
            if at < len(self.log) and self.log[at].era != row.era:
                self._shorten(at)
            if at == len(self.log):
                self.log.append(row)
                self.state.apply(at + 1, row)

    def _shorten(self, many):
        """Keep only the first so many rows."""
        self.log = self.log[:many]
        self.state = State(self.board)
        for at, row in enumerate(self.log, start=1):
            self.state.apply(at, row)

    def _take_count(self, era, many):
        """Learn how many rows the other head has."""
        if era != self.era or not self.leads():
            return
        self.shared = max(self.shared, many)
        self.is_shared_known = True
        if not self.single:
            self._settle(self.shared)
        self._pass_on()
        self.clerk.push_all()

    def _take_report(self, house, word, term, stamp, told):
        """Learn what a piece house has."""
        # What was asked in another term may have become otherwise since.
        if not self.leads() or term != self.term:
            return
        if word == "kept":
            self.clerk.note_kept(house, told[0])
            self.steward.note(house, stamp, told)
        elif word == "state":
            for row in told:
                self.steward.note(house, stamp, row)
            self.clerk.push_all()
        elif word == "found":
            question, rows = told
            for row, _ in rows:
                self.steward.note(house, stamp, row)
            self.clerk.note_found(question, rows)
