"""Folders and files, how they are come to, and who may do what to them."""

from farfiles.sizes import ROOT
from farfiles.words import MOST_NAMES, is_path

# The answer to a deed that tells nothing.
DONE = ("done",)


class Refused(Exception):
    """A deed that is answered with no and this word."""

    def __init__(self, word):
        super().__init__("the deed is refused")
        self.word = word


class Folder:
    """A folder: whose it is, what stands in it, and its limit, if any."""

    def __init__(self, owner, group, rights):
        self.kind = "folder"
        self.owner = owner
        self.group = group
        self.rights = rights
        self.names = {}
        self.limit = None


class File:
    """A file: whose it is, its parts, and how many cells are promised to it."""

    def __init__(self, owner, group, rights):
        self.kind = "file"
        self.owner = owner
        self.group = group
        self.rights = rights
        # Only a folder has names.
        self.names = None
        self.parts = ()
        self.size = 0
        self.promised = 0
        # How many names it has; without any it is gone.
        self.links = 1


def lets(members, user, sign, node):
    """Whether the user may do the sign to the folder or file."""
    if user == ROOT:
        return True
    owners, group, others = node.rights
    if user == node.owner:
        return sign in owners
    if node.group in members and user in members[node.group]:
        return sign in group
    return sign in others


def gone_along(members, top, path, user):
    """What the path names, gone along from the top by the user; else the word of a refusal.

    Of any thing that is no PATH None: a name that is there is a WORD, so each is
    looked at by itself only where the way ends ahead of the path.
    """
    if not isinstance(path, tuple) or len(path) > MOST_NAMES:
        return None
    node = top
    for name in path:
        if not isinstance(name, str):
            return None
        names = node.names
        if names is None:
            word = "nofolder"
        elif user != ROOT and not lets(members, user, "r", node):
            word = "noright"
        elif name not in names:
            word = "nothere"
        else:
            node = names[name]
            continue
        return word if is_path(path) else None
    return node


def come_to(members, top, path, user):
    """What the path names, gone along from the top by the user."""
    node = gone_along(members, top, path, user)
    if isinstance(node, str):
        raise Refused(node)
    return node


def folder_at(core, user, path):
    """The folder that the path names."""
    node = come_to(core.members, core.top, path, user)
    if not isinstance(node, Folder):
        raise Refused("nofolder")
    return node


def file_at(core, user, path):
    """The file that the path names."""
    node = come_to(core.members, core.top, path, user)
    if not isinstance(node, File):
        raise Refused("nofile")
    return node


def must_let(core, user, sign, node):
    """Refuse the deed, if the user may not do the sign."""
    if not lets(core.members, user, sign, node):
        raise Refused("noright")


def must_own(user, node):
    """Refuse the deed to all but the owner and root."""
    if user != node.owner and user != ROOT:
        raise Refused("noright")


def files_below(folder):
    """The files with a name in the folder or below, each once."""
    found = {}
    waiting = [folder]
    while waiting:
        here = waiting.pop()
        for node in list(here.names.values()):
            if isinstance(node, Folder):
                waiting.append(node)
            else:
                found[node] = True
    return list(found)


def height(node):
    """How many names the longest path below has."""
    if not isinstance(node, Folder):
        return 0
    return max([1 + height(below) for below in node.names.values()], default=0)


def copied(node, twins):
    """Another node like this one and all below; twins tells the new one of each."""
    if node in twins:
        return twins[node]
    if isinstance(node, Folder):
        twin = Folder(node.owner, node.group, node.rights)
        twin.limit = node.limit
        twin.names = {name: copied(below, twins) for name, below in node.names.items()}
    else:
        twin = File(node.owner, node.group, node.rights)
        twin.parts = node.parts
        twin.size = node.size
        twin.promised = node.promised
        twin.links = node.links
    twins[node] = twin
    return twin
