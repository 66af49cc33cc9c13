"""The deeds by which folders and files come, go and become others."""

from farfiles.nodes import DONE, NO_RIGHT, File, Folder, come_to, file_at, give_rights, height
from farfiles.nodes import lets, owns
from farfiles.parts import shortened
from farfiles.room import NO_ROOM, has_room
from farfiles.sizes import ROOT
from farfiles.words import MOST_NAMES

# The rights of what is made.
NEW_RIGHTS = ("rw", "r", "r")


def shape_deed(core, user, deed):
    """Answer a deed that makes, moves, strikes or changes something."""
    action = ACTIONS[deed[0]]
    return action(core, user, deed)


def _folder_of(core, user, path):
    """The folder in which the last name of the path stands or shall stand, else a word."""
    folder = come_to(core, user, path[:-1])
    if isinstance(folder, str):
        return folder
    if folder.names is None:
        return "nofolder"
    return folder if lets(core.members, user, "w", folder) else "noright"


def _new_place(core, user, path):
    """The folder in which the path, no name of anything yet, shall stand, else a word."""
    if not path:
        return "stands"
    folder = _folder_of(core, user, path)
    if isinstance(folder, str):
        return folder
    return "stands" if path[-1] in folder.names else folder


def _old_place(core, user, path):
    """The folder in which the path, no top, stands, else a word."""
    if not path:
        return "top"
    folder = _folder_of(core, user, path)
    if isinstance(folder, str):
        return folder
    return folder if path[-1] in folder.names else "nothere"


def _make(core, user, deed):
    word, path = deed
    place = _new_place(core, user, path)
    if isinstance(place, str):
        return ("no", place)
    if word == "folder":
        place.names[path[-1]] = Folder(user, place.group, NEW_RIGHTS)
    else:
        place.names[path[-1]] = File(user, place.group, NEW_RIGHTS)
    return DONE


def _link(core, user, deed):
    _, path, new = deed
    file = file_at(core, user, path, None)
    if isinstance(file, str):
        return ("no", file)
    place = _new_place(core, user, new)
    if isinstance(place, str):
        return ("no", place)
    place.names[new[-1]] = file
    file.links += 1
    if has_room(core):
        return DONE
    del place.names[new[-1]]
    file.links -= 1
    return NO_ROOM


def _move(core, user, deed):
    _, path, new = deed
    source = _old_place(core, user, path)
    if isinstance(source, str):
        return ("no", source)
    node = source.names[path[-1]]
    if node.names is not None and len(new) > len(path) and new[:len(path)] == path:
        return ("no", "ring")
    target = _new_place(core, user, new)
    if isinstance(target, str):
        return ("no", target)
    if len(new) + height(node) > MOST_NAMES:
        return ("no", "deep")
    del source.names[path[-1]]
    target.names[new[-1]] = node
    if has_room(core):
        return DONE
    del target.names[new[-1]]
    source.names[path[-1]] = node
    return NO_ROOM


def _strike(core, user, deed):
    path = deed[1]
    place = _old_place(core, user, path)
    if isinstance(place, str):
        return ("no", place)
    node = place.names[path[-1]]
    if node.names is None:
        node.links -= 1
    elif node.names:
        return ("no", "full")
    else:
        core.limited.pop(node, None)
    del place.names[path[-1]]
    return DONE


def _cut(core, user, deed):
    _, path, many = deed
    file = file_at(core, user, path, "w")
    if isinstance(file, str):
        return ("no", file)
    if many > file.size:
        return ("no", "noplace")
    file.parts = shortened(file.parts, many)
    file.size = many
    return DONE


def _rights(core, user, deed):
    _, path, owner, group, rights = deed
    node = come_to(core, user, path)
    if isinstance(node, str):
        return ("no", node)
    ahead = node.owner
    if not owns(user, node) or (owner != ahead and user != ROOT):
        return NO_RIGHT
    node.owner = owner
    if owner != ahead and not has_room(core):
        node.owner = ahead
        return NO_ROOM
    node.group = group
    give_rights(node, rights)
    return DONE


ACTIONS = {
    "folder": _make, "file": _make, "link": _link, "move": _move,
    "strike": _strike, "cut": _cut, "rights": _rights,
}
