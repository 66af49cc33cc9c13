"""What a head that leads does for the askers' questions; all forgotten with a fall."""

from farfiles.fillings import filled, wanted_parts
from farfiles.parts import cells


class Find:
    """The cells that an answer wants, and those that came."""

    def __init__(self, question, pieces):
        self.question = question
        self.pieces = pieces
        self.found = {}


class Write:
    """The cells of a promise, and the houses that kept them."""

    def __init__(self, number, data):
        self.number = number
        self.data = data
        self.houses = {}


class Clerk:
    """The open questions that a head knows, and what they wait for."""

    def __init__(self, head):
        self.head = head
        self.board = head.board
        self.wishes = {}
        self.finds = {}
        self.writes = {}

    def hear(self, asker, question, deed):
        """An asker asks this, perhaps anew."""
        if question < self._last_question(asker):
            return
        if asker in self.wishes and self.wishes[asker][0] != question:
            self._drop(asker)
        self.wishes[asker] = (question, deed)
        self.push_all()

    def push_all(self):
        """Go on with each question as far as can be."""
        # What one question writes may be what another one waits for.
        ahead = -1
        while ahead < len(self.head.log):
            ahead = len(self.head.log)
            for asker in list(self.wishes):
                self._push(asker)

    def pass_tick(self):
        """Ask the piece houses again, then go on with each question."""
        for asker in sorted(self.finds):
            self._ask_cells(self.finds[asker])
        for asker in sorted(self.writes):
            self._send_data(self.writes[asker], self.board.staying())
        self.push_all()

    def note_kept(self, house, piece):
        """The house kept the cells of this piece."""
        for work in list(self.writes.values()):
            if work.number == piece:
                work.houses[house] = True
        self.push_all()

    def note_found(self, question, rows):
        """A house told of these pieces their cells, None where they aren't right."""
        for find in list(self.finds.values()):
            if find.question == question:
                for (piece, _, _), told in rows:
                    if told is not None:
                        find.found[piece] = told
        self.push_all()

    def _last_question(self, asker):
        record = self.head.state.records.get(asker)
        placed = -1 if record is None else record.question
        heard = self.wishes[asker][0] if asker in self.wishes else -1
        return max(placed, heard)

    def _drop(self, asker):
        self.wishes.pop(asker, None)
        self.finds.pop(asker, None)
        self.writes.pop(asker, None)

    def _push(self, asker):
        question, deed = self.wishes[asker]
        if not self._is_placed(asker, question):
            if not self._place(asker, question, _first_deed(deed)):
                return
        place, when, done, raw = self.head.state.records[asker].placed[-1]
        if place > self.head.settled:
            return
        if done[0] == "promise" and raw[0] == "done":
            self._write(asker, question, raw[1], deed[3])
            return
        answer = self._answer(asker, question, done[0], raw)
        if answer is not None:
            text = ("answer", question, answer, place, when)
            self.head.send(asker, text)
            self._drop(asker)

    def _is_placed(self, asker, question):
        record = self.head.state.records.get(asker)
        return record is not None and record.question == question

    def _place(self, asker, question, deed, houses=()):
        """Write the deed into the log, if no lease of another asker holds it up."""
        if self.head.state.is_held_up(asker, deed):
            return False
        self.head.write(asker, question, deed, houses)
        return True

    def _write(self, asker, question, number, data):
        """Have the cells kept; when they are, write the put into the log."""
        work = self.writes.get(asker)
        if work is None or work.number != number:
            work = Write(number, data)
            self.writes[asker] = work
            self._send_data(work, self._first_houses(number))
        if not self.board.is_enough(list(work.houses)):
            return
        deed = ("put", number, len(data))
        if self._place(asker, question, deed, tuple(sorted(work.houses))):
            self.writes.pop(asker, None)
            self._push(asker)

    def _first_houses(self, number):
        """The houses that are asked first to keep a piece, not always the same."""
        staying = self.board.staying()
        many = min(self.board.copies, len(staying))
        return [staying[(number + at) % len(staying)] for at in range(many)]

    def _send_data(self, work, houses):
        for house in houses:
            if house not in work.houses:
                ticket = self.head.steward.ticket_for(house, work.number)
                text = ("keep", self.head.term, work.number, work.data, self.head.name, ticket)
                self.head.send(house, text)

    def _answer(self, asker, question, word, raw):
        """The answer with its cells, None as long as some are missing."""
        wanted = wanted_parts(word, raw)
        if wanted is None:
            return raw
        find = self.finds.get(asker)
        if find is None:
            pieces = sorted({piece: True for piece, _, _ in wanted})
            find = Find(question, pieces)
            self.finds[asker] = find
            self._ask_cells(find)
        if not _missing(find):
            return filled(word, raw, ("told", cells(wanted, find.found)))
        lost = self._lost_houses(find)
        return filled(word, raw, ("lost", lost)) if lost else None

    def _ask_cells(self, find):
        """Ask each house that may have some of what is missing."""
        missing = _missing(find)
        for house in self.board.left():
            if any([not self.head.steward.denies(house, piece) for piece in missing]):
                self.head.send(house, ("fetch", self.head.term, find.question, tuple(missing)))

    def _lost_houses(self, find):
        """The houses that had what is lost of the cells, none as long as nothing is.

        Of no piece that some house may have right, whether it's down or its letters
        don't come, it's told that it is lost.
        """
        houses = {}
        for piece in _missing(find):
            if all([self.head.steward.denies(house, piece) for house in self.board.left()]):
                for house in self.head.steward.lost_with(piece):
                    houses[house] = True
        return tuple(sorted(houses))


def _first_deed(deed):
    """The deed by which a question comes into the log first."""
    if deed[0] == "write":
        _, path, place, data = deed
        return ("promise", path, place, len(data))
    return deed[1] if deed[0] == "glance" else deed


def _missing(find):
    return [piece for piece in find.pieces if piece not in find.found]
