"""The tree without the cells: names, rights, room, and which pieces files have.

A piece has the number of the promise by which it was put.
"""

from farfiles.nodes import Folder, copied, files_below
from farfiles.room import Promise, lapse, room_deed
from farfiles.shapes import shape_deed
from farfiles.sizes import ROOT
from farfiles.tellings import sight_of, telling_deed

SHAPING = {
    "folder": True, "file": True, "link": True, "move": True, "strike": True, "cut": True,
    "rights": True,
}
ROOMY = {"limit": True, "share": True, "promise": True, "put": True, "use": True, "held": True}


class Core:
    """The tree of these groups, told deeds one behind the other."""

    def __init__(self, groups):
        self.groups = groups
        self.members = {group: users for group, users in groups}
        self.clock = 0
        self.top = Folder(ROOT, ROOT, ("rw", "rw", "rw"))
        self.promises = {}
        # How many promises were made.
        self.made = 0
        # The folders that have a limit.
        self.limited = {}
        self.shares = {}
        # Watched, it notes whose limit or share a deed that finds no room would break.
        self.is_watched = False
        self.strains = []
        self.snaps = {}
        # The pieces that snapshots have.
        self.snapped = {}

    def act(self, when, user, deed):
        """The answer to a deed, of a put how many cells in the place of DATA."""
        self.clock = when
        if self.promises:
            lapse(self)
        word = deed[0]
        if word in SHAPING:
            return shape_deed(self, user, deed)
        if word in ROOMY:
            return room_deed(self, user, deed)
        return telling_deed(self, user, deed)

    def seen(self, user, path):
        """The sight of the path."""
        return sight_of(self, user, path)

    def live_pieces(self):
        """The pieces that a file or a snapshot has, growing."""
        live = {piece: True for piece in self.snapped}
        for file in files_below(self.top):
            for piece, _, _ in file.parts:
                live[piece] = True
        return sorted(live)


def trial_of(core):
    """Another core like this one but for the snapshots, to try a deed on that may change a sight."""
    trial = Core(core.groups)
    twins = {}
    trial.top = copied(core.top, twins)
    trial.limited = {copied(folder, twins): True for folder in core.limited}
    trial.shares = dict(core.shares)
    for number, told in core.promises.items():
        file = copied(told.file, twins)
        trial.promises[number] = Promise(file, told.user, told.place, told.many, told.until)
    return trial
