"""The deeds that only tell, and snapshots.

Cells are told as ("cells", PARTS): who keeps the pieces puts the cells in.
"""

from farfiles.nodes import DONE, NO_RIGHT, come_to, copied, folder_at, gone_along, lets, owns


def telling_deed(core, user, deed):
    """Answer a deed that only tells, or takes a snapshot."""
    action = ACTIONS[deed[0]]
    return action(core, user, deed)


def told_of_path(core, user, deed):
    """Answer a read, list, look or old; None of any thing that is no such deed."""
    if not isinstance(deed, tuple) or not 2 <= len(deed) <= 3:
        return None
    word, path, top = deed[0], deed[-1], core.top
    if len(deed) == 3:
        name = deed[1]
        if word != "old" or not isinstance(name, str):
            return None
        # A name that isn't taken may be no WORD: this is left to who asks.
        if name not in core.snaps:
            return None
        top = core.snaps[name]
    elif word not in PATH_WORDS:
        return None
    node = gone_along(core.members, top, path, user)
    if node is None:
        return None
    if isinstance(node, str):
        return ("no", node)
    if word == "look":
        return ("told", _looked(node))
    return _told_of(core, user, node, word)


def sight_of(core, user, path):
    """What look tells of the path, and what read or list does."""
    node = come_to(core, user, path)
    if isinstance(node, str):
        answer = ("no", node)
        return (answer, answer)
    return (("told", _looked(node)), _told_of(core, user, node, None))


def _looked(node):
    size = node.size if node.names is None else len(node.names)
    return (node.kind, node.owner, node.group, node.rights, size)


def _told_of(core, user, node, word):
    """What read tells of a file, list of a folder; each of these words of the other one no."""
    names = node.names
    if names is None and word == "list":
        return ("no", "nofolder")
    if names is not None and word == "read":
        return ("no", "nofile")
    if not node.is_open and not lets(core.members, user, "r", node):
        return NO_RIGHT
    if names is None:
        return ("cells", node.parts)
    return ("told", tuple([(name, names[name].kind) for name in sorted(names)]))


def _path_deed(core, user, deed):
    return told_of_path(core, user, deed)


def _sight(core, user, deed):
    return ("told", sight_of(core, user, deed[1]))


def _lease(core, user, deed):
    _, path, ticks = deed
    return ("told", (sight_of(core, user, path), core.clock + ticks))


def _back(core, user, deed):
    return DONE


def _snap(core, user, deed):
    _, path, name = deed
    folder = folder_at(core, user, path)
    if isinstance(folder, str):
        return ("no", folder)
    if not owns(user, folder):
        return NO_RIGHT
    if name in core.snaps:
        return ("no", "stands")
    twins = {}
    core.snaps[name] = copied(folder, twins)
    for node in twins:
        if node.names is None:
            for piece, _, _ in node.parts:
                core.snapped[piece] = True
    return DONE


def _old(core, user, deed):
    if deed[1] not in core.snaps:
        return ("no", "nosnap")
    return told_of_path(core, user, deed)


PATH_WORDS = ("read", "list", "look")

ACTIONS = {
    "read": _path_deed, "list": _path_deed, "look": _path_deed, "old": _old,
    "sight": _sight, "lease": _lease, "back": _back, "snap": _snap,
}
