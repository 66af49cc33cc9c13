"""Folders and files, how they are come to, and who may do what to them.

A refusal is told by its word alone, a text, in the place of what was looked for.
"""

from farfiles.sizes import ROOT
from farfiles.words import MOST_NAMES, is_path

# The answer to a deed that tells nothing.
DONE = ("done",)

# The answer to a deed for which the user lacks the right.
NO_RIGHT = ("no", "noright")


class Folder:
    """A folder: whose it is, what stands in it, and its limit, if any."""

    def __init__(self, owner, group, rights):
        self.kind = "folder"
        self.owner = owner
        self.group = group
        self.rights = rights
        # Whether all may read it. Nearly all things are so, and it's asked of each name of a path.
        self.is_open = True
        self.names = {}
        self.limit = None


class File:
    """A file: whose it is, its parts, and how many cells are promised to it."""

    def __init__(self, owner, group, rights):
        self.kind = "file"
        self.owner = owner
        self.group = group
        self.rights = rights
        self.is_open = True
        # Only a folder has names.
        self.names = None
        self.parts = ()
        self.size = 0
        self.promised = 0
        # How many names it has; without any it is gone.
        self.links = 1


def give_rights(node, rights):
    """Let the thing have these rights from now on."""
    owners, group, others = rights
    node.rights = rights
    node.is_open = "r" in owners and "r" in group and "r" in others


def lets(members, user, sign, node):
    """Whether the user may do the sign to the folder or file."""
    if user == ROOT:
        return True
    owners, group, others = node.rights
    if user == node.owner:
        return sign in owners
    if node.group in members and user in members[node.group]:
        return sign in group
    return sign in others


def gone_along(members, top, path, user):
    """What the path names, gone along from the top by the user; else the word of a refusal.

    Of any thing that is no PATH None: a name that is there is a WORD, so each is
    looked at by itself only where the way ends ahead of the path.
    """
    if not isinstance(path, tuple) or len(path) > MOST_NAMES:
        return None
    node = top
    for name in path:
        if not isinstance(name, str):
            return None
        names = node.names
        if names is None:
            word = "nofolder"
        elif not node.is_open and not lets(members, user, "r", node):
            word = "noright"
        elif name not in names:
            word = "nothere"
        else:
            node = names[name]
            continue
        return word if is_path(path) else None
    return node


def come_to(core, user, path):
    """What the PATH names, gone along from the top by the user; else the word of a refusal."""
    node = core.top
    for name in path:
        names = node.names
        if names is None:
            return "nofolder"
        if not node.is_open and not lets(core.members, user, "r", node):
            return "noright"
        if name not in names:
            return "nothere"
        node = names[name]
    return node


def folder_at(core, user, path):
    """The folder that the path names, else the word of a refusal."""
    node = come_to(core, user, path)
    return "nofolder" if isinstance(node, File) else node


def file_at(core, user, path, sign):
    """The file that the path names, to which the user may do the sign, if any; else a word."""
    node = come_to(core, user, path)
    if isinstance(node, str):
        return node
    if node.names is not None:
        return "nofile"
    if sign is not None and not lets(core.members, user, sign, node):
        return "noright"
    return node


def owns(user, node):
    """Whether this is the owner, or root."""
    return user == node.owner or user == ROOT


def files_below(folder):
    """The files with a name in the folder or below, each once."""
    found = {}
    _find_files(folder, found)
    return list(found)


def _find_files(folder, found):
    for node in folder.names.values():
        if node.names is None:
            found[node] = True
        else:
            _find_files(node, found)


def height(node):
    """How many names the longest path below has."""
    if node.names is None:
        return 0
    return max([1 + height(below) for below in node.names.values()], default=0)


def copied(node, twins):
    """Another node like this one and all below; twins tells the new one of each."""
    if node in twins:
        return twins[node]
    if node.names is not None:
        twin = Folder(node.owner, node.group, node.rights)
        twin.limit = node.limit
        twin.names = {name: copied(below, twins) for name, below in node.names.items()}
    else:
        twin = File(node.owner, node.group, node.rights)
        twin.parts = node.parts
        twin.size = node.size
        twin.promised = node.promised
        twin.links = node.links
    twin.is_open = node.is_open
    twins[node] = twin
    return twin
