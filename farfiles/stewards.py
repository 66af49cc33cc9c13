"""What a head knows of the copies, and how it has more of them made."""

from farfiles.keepers import BENT, RIGHT


class Steward:
    """How the piece houses told last that pieces stand with them; forgotten with a fall."""

    def __init__(self, head):
        self.head = head
        self.board = head.board
        # For a house and a piece: (STAMP, HOW, TICKET) of the newest letter.
        self.reports = {}
        # For a house and a piece the newest ticket by which cells were sent there.
        self.ordered = {}
        # The pieces that have copies enough, with so many houses gone or being emptied.
        self.well = {}
        self.without = 0

    def note(self, house, stamp, row):
        """The house told so of the piece; an older letter that comes late counts nothing."""
        piece, how, ticket = row
        if (house, piece) in self.reports and self.reports[(house, piece)][0] > stamp:
            return
        self.reports[(house, piece)] = (stamp, how, ticket)
        if how == BENT:
            self.well.pop(piece, None)
        had = self.head.state.had
        # What is bent it had, too.
        if how in (RIGHT, BENT) and piece in had and house not in had[piece]:
            self.head.note_copy(piece, house)

    def ticket_for(self, house, piece):
        """The ticket by which cells of the piece, that are sent now, are taken there."""
        ticket = 0
        if (house, piece) in self.reports:
            ticket = self.reports[(house, piece)][2]
        self.ordered[(house, piece)] = max(ticket, self.ordered.get((house, piece), 0))
        return ticket

    def denies(self, house, piece):
        """Whether the house told that it hasn't the piece right, and can't have got it since."""
        if not self._told_otherwise(house, piece):
            return False
        return self.reports[(house, piece)][2] > self.ordered.get((house, piece), -1)

    def had_by(self, piece):
        """The houses that are known to have had the piece, growing."""
        return sorted(self.head.state.had.get(piece, {}))

    def right_with(self, piece):
        """The houses that aren't gone and have the piece right, as far as they told."""
        left = [house for house in self.had_by(piece) if house not in self.board.away]
        return [house for house in left if not self._told_otherwise(house, piece)]

    def lost_with(self, piece):
        """The houses gone or bent that are known to have had the piece."""
        right = self.right_with(piece)
        return [house for house in self.had_by(piece) if house not in right]

    def pass_tick(self):
        """Have copied what wants copies, and ask the piece houses what is bent."""
        live = self.head.state.live_pieces()
        if not live:
            return
        without = len(self.board.away) + len(self.board.leaving)
        if without != self.without:
            self.without = without
            self.well = {}
        for piece in live:
            if piece not in self.well:
                self._have_copied(piece)
        doubtful = tuple([piece for piece in live if piece not in self.well])
        for house in self.board.left():
            self.head.send(house, ("audit", self.head.term, doubtful))

    def _told_otherwise(self, house, piece):
        """Whether the house told last that it hasn't the piece right."""
        return (house, piece) in self.reports and self.reports[(house, piece)][1] != RIGHT

    def _have_copied(self, piece):
        right = self.right_with(piece)
        staying = self.board.staying()
        good = [house for house in staying if house in right]
        wanted = min(self.board.copies, len(staying)) - len(good)
        if wanted <= 0:
            self.well[piece] = True
            return
        if not right:
            return
        others = [house for house in staying if house not in right]
        # In turn, as the one asked first may be down.
        source = right[self.board.clock % len(right)]
        for at in range(wanted):
            target = others[(self.board.clock + at) % len(others)]
            ticket = self.ticket_for(target, piece)
            self.head.send(source, ("copy", self.head.term, piece, target, ticket))
