"""What a world can tell of itself: what was asked, what is settled, what was told."""


class Ledger:
    """The questions, the order and the answers of a world."""

    def __init__(self):
        # Of each question its asker and its deed.
        self.asked = []
        # How many rows of the heads' log are settled, and what the order tells of them.
        self.settled = 0
        self.rows = []
        self.answers = {}

    def settle(self, log, many):
        """The first so many rows of this log are settled."""
        for at in range(self.settled, many):
            row = log[at]
            # The rows of the houses' own have no place in the order.
            if row.asker is not None:
                deed = self._full(row)
                self.rows.append((at + 1, row.when, row.asker, row.question, deed))
        self.settled = max(self.settled, many)

    def note_answer(self, question, answer, place, age, when):
        """This question was told this answer at this tick."""
        self.answers[question] = (answer, place, age, when)

    def told_rows(self):
        """All answers that were told, growing by their question."""
        rows = []
        for question in sorted(self.answers):
            asker, deed = self.asked[question]
            rows.append((question, asker, deed, *self.answers[question]))
        return rows

    def _full(self, row):
        """The deed with the cells, which heads don't keep, in it."""
        if row.deed[0] != "put":
            return row.deed
        _, asked = self.asked[row.question]
        return ("put", row.deed[1], asked[3])
