"""What a head knows of the copies, and how it has more of them made."""


class Steward:
    """Which houses told last that a piece is right with them or bent; forgotten with a fall."""

    def __init__(self, head):
        self.head = head
        self.board = head.board
        # For a house and a piece the stamp of the newest letter, and whether it's right.
        self.reports = {}
        # The pieces that have copies enough, with so many houses gone or being emptied.
        self.well = {}
        self.without = 0

    def note(self, house, piece, stamp, right):
        """The house told so of the piece; an older letter that comes late counts nothing."""
        if (house, piece) in self.reports and self.reports[(house, piece)][0] > stamp:
            return
        self.reports[(house, piece)] = (stamp, right)
        if not right:
            self.well.pop(piece, None)
        had = self.head.state.had
        if right and piece in had and house not in had[piece]:
            self.head.note_copy(piece, house)

    def is_bent(self, house, piece):
        """Whether the house told last that it hasn't the piece right."""
        return (house, piece) in self.reports and not self.reports[(house, piece)][1]

    def had_by(self, piece):
        """The houses that are known to have had the piece, growing."""
        return sorted(self.head.state.had.get(piece, {}))

    def has_right(self, house, piece):
        """Whether the house isn't gone and has the piece right, as far as it told."""
        if house in self.board.away or house not in self.head.state.had.get(piece, {}):
            return False
        return not self.is_bent(house, piece)

    def right_with(self, piece):
        """The houses that aren't gone and have the piece right, as far as they told."""
        return [house for house in self.had_by(piece) if self.has_right(house, piece)]

    def lost_with(self, piece):
        """The houses gone or bent that are known to have had the piece."""
        right = self.right_with(piece)
        return [house for house in self.had_by(piece) if house not in right]

    def pass_tick(self):
        """Have copied what wants copies, and ask the piece houses what is bent."""
        live = self.head.state.live_pieces()
        if not live:
            return
        without = len(self.board.away) + len(self.board.leaving)
        if without != self.without:
            self.without = without
            self.well = {}
        for piece in live:
            if piece not in self.well:
                self._have_copied(piece)
        doubtful = tuple([piece for piece in live if piece not in self.well])
        for house in self.board.left():
            self.head.post.send(self.head.name, house, ("audit", doubtful))

    def _have_copied(self, piece):
        right = self.right_with(piece)
        staying = self.board.staying()
        good = [house for house in staying if house in right]
        wanted = min(self.board.copies, len(staying)) - len(good)
        if wanted <= 0:
            self.well[piece] = True
            return
        if not right:
            return
        others = [house for house in staying if house not in right]
        # In turn, as the one asked first may be down.
        source = right[self.board.clock % len(right)]
        for at in range(wanted):
            target = others[(self.board.clock + at) % len(others)]
            self.head.post.send(self.head.name, source, ("copy", piece, target))
