"""The deeds that only tell, and snapshots.

Cells are told as ("cells", PARTS): who keeps the pieces puts the cells in.
"""

from farfiles.nodes import DONE, Folder, Refused, come_to, copied, files_below, folder_at
from farfiles.nodes import must_let, must_own


def telling_deed(core, user, deed):
    """Answer a deed that only tells, or takes a snapshot."""
    action = ACTIONS[deed[0]]
    return action(core, user, deed)


def sight_of(core, user, path):
    """What look tells of the path, and what read or list does."""
    try:
        node = come_to(core.members, core.top, path, user)
    except Refused as refusal:
        answer = ("no", refusal.word)
        return (answer, answer)
    return (("told", _looked(node)), _told_or_no(core, user, node))


def _told_or_no(core, user, node):
    try:
        return _told_of(core, user, node)
    except Refused as refusal:
        return ("no", refusal.word)


def _looked(node):
    if isinstance(node, Folder):
        return ("folder", node.owner, node.group, node.rights, len(node.names))
    return ("file", node.owner, node.group, node.rights, node.size)


def _told_of(core, user, node):
    """What read tells of a file, list of a folder."""
    if isinstance(node, Folder):
        return _listed(core, user, node)
    return _cells_of(core, user, node)


def _cells_of(core, user, file):
    must_let(core, user, "r", file)
    return ("cells", file.parts)


def _listed(core, user, folder):
    must_let(core, user, "r", folder)
    return ("told", tuple([(name, _kind(folder.names[name])) for name in sorted(folder.names)]))


def _kind(node):
    return "folder" if isinstance(node, Folder) else "file"


def _read(core, user, deed):
    node = come_to(core.members, core.top, deed[1], user)
    if isinstance(node, Folder):
        raise Refused("nofile")
    return _cells_of(core, user, node)


def _list(core, user, deed):
    return _listed(core, user, folder_at(core, user, deed[1]))


def _look(core, user, deed):
    return ("told", _looked(come_to(core.members, core.top, deed[1], user)))


def _sight(core, user, deed):
    return ("told", sight_of(core, user, deed[1]))


def _lease(core, user, deed):
    _, path, ticks = deed
    return ("told", (sight_of(core, user, path), core.clock + ticks))


def _back(core, user, deed):
    return DONE


def _snap(core, user, deed):
    _, path, name = deed
    folder = folder_at(core, user, path)
    must_own(user, folder)
    if name in core.snaps:
        raise Refused("stands")
    core.snaps[name] = copied(folder, {})
    for file in files_below(folder):
        for piece, _, _ in file.parts:
            core.snapped[piece] = True
    return DONE


def _old(core, user, deed):
    _, name, path = deed
    if name not in core.snaps:
        raise Refused("nosnap")
    return _told_of(core, user, come_to(core.members, core.snaps[name], path, user))


ACTIONS = {
    "read": _read, "list": _list, "look": _look, "sight": _sight,
    "lease": _lease, "back": _back, "snap": _snap, "old": _old,
}
