"""The piece houses."""


class Keeper:
    """A piece house: the cells of pieces, each with a check, all kept for good."""

    def __init__(self, name, board, post):
        self.name = name
        self.board = board
        self.post = post
        self.kept = {}
        self.checks = {}
        # Rises with each letter, so that it's known which of two is the newer one.
        self.stamp = 0
        # The pieces that don't fit their checks, None where that isn't looked up yet.
        self._bent = {}

    def is_right(self, piece):
        """Whether it has the cells of the piece, and they aren't bent."""
        return piece in self.kept and piece not in self._bent_pieces()

    def bend_all(self):
        """Each cell is one more from now on."""
        for piece in list(self.kept):
            self.kept[piece] = tuple([cell + 1 for cell in self.kept[piece]])
        self._bent = None

    def forget(self):
        """A piece house keeps all for good."""

    def pass_tick(self):
        """A piece house does nothing but what it's told by letters."""

    def take(self, source, text):
        """Do what the letter from this house says."""
        word = text[0]
        if word == "keep":
            self._keep(text[1], text[2], text[3])
        elif word == "fetch":
            self._tell_cells(source, text[1], text[2])
        elif word == "audit":
            self._tell_state(source, text[1])
        elif word == "copy":
            self._copy(source, text[1], text[2])

    def _keep(self, piece, cells, head):
        # A house that is being emptied gets nothing new.
        if self.name in self.board.leaving:
            return
        if not self.is_right(piece):
            self.kept[piece] = cells
            self.checks[piece] = sum(cells)
            self._bent_pieces().pop(piece, None)
        self._answer(head, ("kept", self._new_stamp(), piece))

    def _tell_cells(self, head, question, pieces):
        rows = tuple([(piece, self._right_cells(piece)) for piece in pieces])
        self._answer(head, ("found", self._new_stamp(), question, rows))

    def _tell_state(self, head, asked):
        """Tell all that is bent, and what is right of the pieces that are asked for."""
        rows = [(piece, False) for piece in self._bent_pieces()]
        rows.extend([(piece, True) for piece in asked if self.is_right(piece)])
        if rows:
            self._answer(head, ("state", self._new_stamp(), tuple(rows)))

    def _copy(self, head, piece, target):
        if self.is_right(piece):
            self.post.send(self.name, target, ("keep", piece, self.kept[piece], head))

    def _bent_pieces(self):
        if self._bent is None:
            wrong = [piece for piece in self.kept if sum(self.kept[piece]) != self.checks[piece]]
            self._bent = {piece: True for piece in wrong}
        return self._bent

    def _right_cells(self, piece):
        return self.kept[piece] if self.is_right(piece) else None

    def _new_stamp(self):
        self.stamp += 1
        return self.stamp

    def _answer(self, head, text):
        self.post.send(self.name, head, text)
