"""The piece houses."""

RIGHT = "right"
BENT = "bent"
MISSING = "missing"


class Keeper:
    """A piece house: the cells of pieces, each with a check, all kept for good.

    Of a piece that it hasn't right it keeps a ticket, which rises whenever it finds
    that out or tells it to a reading. It takes cells only by its newest ticket: so
    who was told that a piece isn't right here, and ordered no copy since, knows it
    for sure, whatever letters are still on their way.
    """

    def __init__(self, name, board, post):
        self.name = name
        self.board = board
        self.post = post
        self.kept = {}
        self.checks = {}
        self.tickets = {}
        # Rises with each letter, so that it's known which of two is the newer one.
        self.stamp = 0
        # The newest term that a head spoke in; what was said in an older one is void.
        self.term = (0, 0)
        # The pieces that don't fit their checks, None where that isn't looked up yet.
        self._bent = {}

    def is_right(self, piece):
        """Whether it has the cells of the piece, and they aren't bent."""
        return piece in self.kept and piece not in self._bent_pieces()

    def bend_all(self):
        """Each cell is one more from now on."""
        for piece in list(self.kept):
            self.kept[piece] = tuple([cell + 1 for cell in self.kept[piece]])
        self._bent = None

    def forget(self):
        """A piece house keeps all for good."""

    def pass_tick(self):
        """A piece house does nothing but what it's told by letters."""

    def take(self, source, text):
        """Do what the letter from this house says."""
        word, term = text[0], text[1]
        if term < self.term:
            return
        self.term = term
        if word == "keep":
            self._keep(text[2], text[3], text[4], text[5])
        elif word == "fetch":
            self._tell_cells(source, text[2], text[3])
        elif word == "audit":
            self._tell_state(source, text[2])
        elif word == "copy":
            self._copy(source, text[2], text[3], text[4])

    def _keep(self, piece, cells, head, ticket):
        # A house that is being emptied gets nothing new.
        if self.name in self.board.leaving:
            return
        if not self.is_right(piece):
            if ticket < self.tickets.get(piece, 0):
                self._answer(head, "state", (self._row(piece),))
                return
            self.kept[piece] = cells
            self.checks[piece] = sum(cells)
            self._bent_pieces().pop(piece, None)
        self._answer(head, "kept", self._row(piece))

    def _tell_cells(self, head, question, pieces):
        """Tell the cells of these pieces, or, for a reading, that they aren't right here."""
        rows = []
        for piece in pieces:
            if self.is_right(piece):
                rows.append((self._row(piece), self.kept[piece]))
            else:
                self._raise_ticket(piece)
                rows.append((self._row(piece), None))
        self._answer(head, "found", (question, tuple(rows)))

    def _tell_state(self, head, asked):
        """Tell all that is bent, and how all stands that is asked for."""
        pieces = [piece for piece in self._bent_pieces() if piece not in asked]
        pieces.extend(asked)
        if pieces:
            self._answer(head, "state", tuple([self._row(piece) for piece in pieces]))

    def _copy(self, head, piece, target, ticket):
        if self.is_right(piece):
            text = ("keep", self.term, piece, self.kept[piece], head, ticket)
            self.post.send(self.name, target, text)

    def _row(self, piece):
        """(PIECE, HOW, TICKET): how the piece stands here."""
        if self.is_right(piece):
            return (piece, RIGHT, self.tickets.get(piece, 0))
        if piece in self.kept:
            return (piece, BENT, self.tickets[piece])
        if piece not in self.tickets:
            self._raise_ticket(piece)
        return (piece, MISSING, self.tickets[piece])

    def _bent_pieces(self):
        if self._bent is None:
            wrong = [piece for piece in self.kept if sum(self.kept[piece]) != self.checks[piece]]
            self._bent = {piece: True for piece in wrong}
            for piece in wrong:
                self._raise_ticket(piece)
        return self._bent

    def _raise_ticket(self, piece):
        self.tickets[piece] = self.tickets.get(piece, 0) + 1

    def _answer(self, head, word, told):
        self.stamp += 1
        self.post.send(self.name, head, (word, self.term, self.stamp, told))
