"""The plain tree in one place."""

from farfiles.cores import Core
from farfiles.deeds import is_tree_deed
from farfiles.errors import NoDeed, NoGroups, NoTick, NoWord
from farfiles.fillings import filled, wanted_parts
from farfiles.parts import gathered
from farfiles.tellings import told_of_path
from farfiles.words import is_groups, is_path, is_word


class Tree:
    """A tree of files that is told deeds, each with its tick and its user."""

    def __init__(self, groups=()):
        if not is_groups(groups):
            raise NoGroups(groups)
        self.core = Core(groups)
        self.pieces = {}

    def do(self, tick, user, deed):
        """The answer to the deed of this user at this tick."""
        core = self.core
        if not isinstance(tick, int) or isinstance(tick, bool) or tick < core.clock:
            raise NoTick(tick)
        if not is_word(user):
            raise NoWord(user)
        # Most deeds only tell of a path: these are looked through on the way along it.
        raw = told_of_path(core, user, deed)
        if raw is not None:
            core.clock = tick
            return ("told", gathered(raw[1], self.pieces)) if raw[0] == "cells" else raw
        if not is_tree_deed(deed):
            raise NoDeed(deed)
        if deed[0] == "put":
            return self._put(tick, user, deed)
        return self._full(deed[0], core.act(tick, user, deed))

    def sight(self, user, path):
        """What look tells the user of the path, and what read or list does."""
        if not is_word(user):
            raise NoWord(user)
        if not is_path(path):
            raise NoDeed(path)
        return self._full("sight", ("told", self.core.seen(user, path)))[1]

    def _put(self, when, user, deed):
        _, number, data = deed
        answer = self.core.act(when, user, ("put", number, len(data)))
        if answer[0] == "done":
            self.pieces[number] = data
        return answer

    def _full(self, word, raw):
        """The answer with its cells."""
        wanted = wanted_parts(word, raw)
        if wanted is None:
            return raw
        return filled(word, raw, ("told", gathered(wanted, self.pieces)))
