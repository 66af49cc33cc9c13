"""The plain tree with its cells, told what surely is formed as it must be."""

from farfiles.cores import Core
from farfiles.deeds import GLANCED
from farfiles.fillings import filled, wanted_parts
from farfiles.parts import gathered
from farfiles.tellings import told_of_path


class Grove:
    """A tree of files, and the cells of its pieces."""

    def __init__(self, groups):
        self.core = Core(groups)
        self.pieces = {}

    def reply(self, when, user, deed):
        """The answer to a deed of this user at this tick, which is none below the one ahead."""
        word = deed[0]
        if word in GLANCED:
            return self.with_cells(told_of_path(self.core, user, deed))
        if word == "put":
            return self._put(when, user, deed)
        raw = self.core.act(when, user, deed)
        wanted = wanted_parts(word, raw)
        if wanted is None:
            return raw
        return filled(word, raw, ("told", gathered(wanted, self.pieces)))

    def view(self, user, path):
        """The sight of the path."""
        look, inner = self.core.seen(user, path)
        return (look, self.with_cells(inner))

    def with_cells(self, raw):
        """The answer with the cells of its PARTS, if it has any."""
        return ("told", gathered(raw[1], self.pieces)) if raw[0] == "cells" else raw

    def _put(self, when, user, deed):
        _, number, data = deed
        answer = self.core.act(when, user, ("put", number, len(data)))
        if answer[0] == "done":
            self.pieces[number] = data
        return answer
