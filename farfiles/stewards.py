"""What a head knows of the copies, and how it has more of them made."""


class Steward:
    """Which houses told last that a piece is right with them or bent; forgotten with a fall."""

    def __init__(self, head):
        self.head = head
        self.board = head.board
        # For a house and a piece the stamp of the newest letter, and whether it's right.
        self.reports = {}

    def note(self, house, piece, stamp, right):
        """The house told so of the piece; an older letter that comes late counts nothing."""
        if (house, piece) in self.reports and self.reports[(house, piece)][0] > stamp:
            return
        self.reports[(house, piece)] = (stamp, right)
        had = self.head.state.had
        if right and piece in had and house not in had[piece]:
            self.head.note_copy(piece, house)

    def is_bent(self, house, piece):
        """Whether the house told last that it hasn't the piece right."""
        return (house, piece) in self.reports and not self.reports[(house, piece)][1]

    def had_by(self, piece):
        """The houses that are known to have had the piece, growing."""
        return sorted(self.head.state.had.get(piece, {}))

    def right_with(self, piece):
        """The houses that aren't gone and have the piece right, as far as they told."""
        away = self.board.away
        houses = [house for house in self.had_by(piece) if house not in away]
        return [house for house in houses if not self.is_bent(house, piece)]

    def lost_with(self, piece):
        """The houses gone or bent that are known to have had the piece."""
        right = self.right_with(piece)
        return [house for house in self.had_by(piece) if house not in right]

    def pass_tick(self):
        """Ask the piece houses what they have, and have copied what wants copies."""
        live = self.head.state.live_pieces()
        if not live:
            return
        for house in self.board.left():
            self.head.post.send(self.head.name, house, ("audit",))
        for piece in live:
            self._have_copied(piece)

    def _have_copied(self, piece):
        right = self.right_with(piece)
        staying = self.board.staying()
        good = [house for house in staying if house in right]
        wanted = min(self.board.copies, len(staying)) - len(good)
        if wanted <= 0 or not right:
            return
        others = [house for house in staying if house not in right]
        # In turn, as the one asked first may be down.
        source = right[self.board.clock % len(right)]
        for at in range(wanted):
            target = others[(self.board.clock + at) % len(others)]
            self.head.post.send(self.head.name, source, ("copy", piece, target))
