"""The deeds by which folders and files come, go and become others."""

from farfiles.nodes import DONE, File, Folder, Refused, come_to, file_at, folder_at, height
from farfiles.nodes import must_let, must_own
from farfiles.parts import shortened
from farfiles.room import has_room
from farfiles.sizes import ROOT
from farfiles.words import MOST_NAMES

# The rights of what is made.
NEW_RIGHTS = ("rw", "r", "r")


def shape_deed(core, user, deed):
    """Answer a deed that makes, moves, strikes or changes something."""
    action = ACTIONS[deed[0]]
    return action(core, user, deed)


def _folder_of(core, user, path):
    """The folder in which the last name of the path stands or shall stand."""
    folder = folder_at(core, user, path[:-1])
    must_let(core, user, "w", folder)
    return folder


def _new_place(core, user, path):
    """The folder in which the path, no name of anything yet, shall stand."""
    if not path:
        raise Refused("stands")
    folder = _folder_of(core, user, path)
    if path[-1] in folder.names:
        raise Refused("stands")
    return folder


def _old_place(core, user, path):
    """The folder in which the path, no top, stands."""
    if not path:
        raise Refused("top")
    folder = _folder_of(core, user, path)
    if path[-1] not in folder.names:
        raise Refused("nothere")
    return folder


def _folder(core, user, deed):
    path = deed[1]
    place = _new_place(core, user, path)
    place.names[path[-1]] = Folder(user, place.group, NEW_RIGHTS)
    return DONE


def _file(core, user, deed):
    path = deed[1]
    place = _new_place(core, user, path)
    place.names[path[-1]] = File(user, place.group, NEW_RIGHTS)
    return DONE


def _link(core, user, deed):
    _, path, new = deed
    file = file_at(core, user, path)
    place = _new_place(core, user, new)
    place.names[new[-1]] = file
    if not has_room(core):
        del place.names[new[-1]]
        raise Refused("noroom")
    file.links += 1
    return DONE


def _move(core, user, deed):
    _, path, new = deed
    source = _old_place(core, user, path)
    node = source.names[path[-1]]
    inside = len(new) > len(path) and new[:len(path)] == path
    if isinstance(node, Folder) and inside:
        raise Refused("ring")
    target = _new_place(core, user, new)
    if len(new) + height(node) > MOST_NAMES:
        raise Refused("deep")
    del source.names[path[-1]]
    target.names[new[-1]] = node
    if not has_room(core):
        del target.names[new[-1]]
        source.names[path[-1]] = node
        raise Refused("noroom")
    return DONE


def _strike(core, user, deed):
    path = deed[1]
    place = _old_place(core, user, path)
    node = place.names[path[-1]]
    if isinstance(node, Folder):
        if node.names:
            raise Refused("full")
        core.limited.pop(node, None)
    else:
        node.links -= 1
    del place.names[path[-1]]
    return DONE


def _cut(core, user, deed):
    _, path, many = deed
    file = file_at(core, user, path)
    must_let(core, user, "w", file)
    if many > file.size:
        raise Refused("noplace")
    file.parts = shortened(file.parts, many)
    file.size = many
    return DONE


def _rights(core, user, deed):
    _, path, owner, group, rights = deed
    node = come_to(core.members, core.top, path, user)
    must_own(user, node)
    ahead = node.owner
    if owner != ahead and user != ROOT:
        raise Refused("noright")
    node.owner = owner
    if owner != ahead and not has_room(core):
        node.owner = ahead
        raise Refused("noroom")
    node.group = group
    node.rights = rights
    return DONE


ACTIONS = {
    "folder": _folder, "file": _file, "link": _link, "move": _move,
    "strike": _strike, "cut": _cut, "rights": _rights,
}
