"""The askers."""

from farfiles.boards import HEADS
from farfiles.deeds import GLANCED, TELLING
from farfiles.sizes import BOUND


class Lease:
    """A lease as its asker knows it: its place in the order, its tick, till when, the sight."""

    def __init__(self, place, when, until, sight):
        self.place = place
        self.when = when
        self.until = until
        self.shown = sight


class Asker:
    """An asker: its question, its leases and what it was told, all forgotten with a fall."""

    def __init__(self, name, board, post, ledger):
        self.name = name
        self.board = board
        self.post = post
        self.ledger = ledger
        self.forget()

    def forget(self):
        """Lose the question, the leases and what was told."""
        self.pending = None
        self.leases = {}
        # For a read, list or look that was told: (PLACE, TICK, ANSWER), the newest.
        self.cache = {}

    def put_question(self, question, deed):
        """Ask this, or tell it at once where that can be."""
        if deed[0] != "lease" and deed[0] not in TELLING:
            # What it asks now may change what it leased.
            self.leases = {}
        known = self._known(deed)
        if known is None:
            self.pending = (question, deed)
            self.pass_tick()
            return
        answer, place, when, age = known
        self._note(question, deed, answer, place, when, age)

    def pass_tick(self):
        """Ask again what isn't told."""
        if self.pending is not None:
            question, deed = self.pending
            for head in HEADS:
                self.post.send(self.name, head, ("ask", question, deed))

    def take(self, source, text):
        """Do what the letter from this house says: hear an answer."""
        _, question, answer, place, when = text
        if self.pending is None or self.pending[0] != question:
            return
        _, deed = self.pending
        self.pending = None
        self._note(question, deed, answer, place, when, 0)

    def _note(self, question, deed, answer, place, when, age):
        self.ledger.note_answer(question, answer, place, age, self.board.clock)
        if deed[0] == "lease":
            sight, until = answer[1]
            self.leases[deed[1]] = Lease(place, when, until, sight)
            self._cache_sight(deed[1], sight, place, when)
        elif deed[0] == "glance":
            self._cache(deed[1], answer, place, when)
        elif deed[0] in GLANCED:
            self._cache(deed, answer, place, when)

    def _cache(self, deed, answer, place, when):
        if deed not in self.cache or self.cache[deed][0] < place:
            self.cache[deed] = (place, when, answer)

    def _cache_sight(self, path, sight, place, when):
        look, inner = sight
        self._cache(("look", path), look, place, when)
        if look[0] == "told":
            self._cache((_teller(look), path), inner, place, when)

    def _known(self, deed):
        """(ANSWER, PLACE, TICK, AGE) of what can be told at once, else None."""
        if deed[0] == "glance":
            known = self._known_of_old(deed[1])
            return self._known_by_lease(deed[1]) if known is None else known
        if deed[0] in GLANCED:
            return self._known_by_lease(deed)
        return None

    def _known_of_old(self, deed):
        if deed not in self.cache:
            return None
        place, when, answer = self.cache[deed]
        age = self.board.clock - when
        return (answer, place, when, age) if age <= BOUND else None

    def _known_by_lease(self, deed):
        word, path = deed
        lease = self.leases.get(path)
        if lease is None or self.board.clock >= lease.until:
            return None
        return (_told_by(lease.shown, word), lease.place, lease.when, 0)


def _teller(look):
    """The word of the deed that tells what stands in what was looked at."""
    return "list" if look[1][0] == "folder" else "read"


def _told_by(sight, word):
    """What a deed of this word is answered, by the sight of its path."""
    look, inner = sight
    if word == "look" or look[0] == "no":
        return look
    if word == _teller(look):
        return inner
    return ("no", "nofile") if word == "read" else ("no", "nofolder")
