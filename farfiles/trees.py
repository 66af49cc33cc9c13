"""The plain tree in one place."""

from farfiles.deeds import is_tree_deed
from farfiles.errors import NoDeed, NoGroups, NoTick, NoWord
from farfiles.groves import Grove
from farfiles.tellings import told_of_path
from farfiles.words import is_groups, is_path, is_word


class Tree(Grove):
    """A tree of files that is told deeds, each with its tick and its user."""

    def __init__(self, groups=()):
        if not is_groups(groups):
            raise NoGroups(groups)
        Grove.__init__(self, groups)

    def do(self, tick, user, deed):
        """The answer to the deed of this user at this tick."""
        core = self.core
        if not isinstance(tick, int) or isinstance(tick, bool) or tick < core.clock:
            raise NoTick(tick)
        if not is_word(user):
            raise NoWord(user)
        # Most deeds only tell of a path: these are looked through on the way along it.
        raw = told_of_path(core, user, deed)
        if raw is not None:
            core.clock = tick
            return self.with_cells(raw)
        if not is_tree_deed(deed):
            raise NoDeed(deed)
        return self.reply(tick, user, deed)

    def sight(self, user, path):
        """What look tells the user of the path, and what read or list does."""
        if not is_word(user):
            raise NoWord(user)
        if not is_path(path):
            raise NoDeed(path)
        return self.view(user, path)
