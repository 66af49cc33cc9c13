"""The plain tree in one place."""

from farfiles.cores import Core
from farfiles.deeds import is_tree_deed
from farfiles.errors import NoDeed, NoGroups, NoTick, NoWord
from farfiles.fillings import filled, wanted_parts
from farfiles.parts import cells
from farfiles.wholes import is_count
from farfiles.words import is_groups, is_path, is_word


class Tree:
    """A tree of files that is told deeds, each with its tick and its user."""

    def __init__(self, groups=()):
        if not is_groups(groups):
            raise NoGroups(groups)
        self.core = Core(groups)
        self.pieces = {}

    def do(self, tick, user, deed):
        """The answer to the deed of this user at this tick."""
        if not is_count(tick) or tick < self.core.clock:
            raise NoTick(tick)
        if not is_word(user):
            raise NoWord(user)
        if not is_tree_deed(deed):
            raise NoDeed(deed)
        if deed[0] == "put":
            return self._put(tick, user, deed)
        return self._full(deed[0], self.core.act(tick, user, deed))

    def sight(self, user, path):
        """What look tells the user of the path, and what read or list does."""
        if not is_word(user):
            raise NoWord(user)
        if not is_path(path):
            raise NoDeed(path)
        return self._full("sight", ("told", self.core.seen(user, path)))[1]

    def _put(self, when, user, deed):
        _, number, data = deed
        answer = self.core.act(when, user, ("put", number, len(data)))
        if answer[0] == "done":
            self.pieces[number] = data
        return answer

    def _full(self, word, raw):
        """The answer with its cells."""
        wanted = wanted_parts(word, raw)
        if wanted is None:
            return raw
        return filled(word, raw, ("told", cells(wanted, self.pieces)))
