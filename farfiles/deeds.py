"""How deeds are formed: those that a Tree is told, and those that an asker is asked."""

from farfiles.sizes import LONGEST, MOST
from farfiles.wholes import is_count, is_from_to
from farfiles.words import is_path, is_rights, is_word

# What is told of one path, and of old by a glance.
GLANCED = ("read", "list", "look")

# What only tells.
TELLING = ("read", "list", "look", "use", "held", "old", "glance")

# What may stand in an order again and again: what only tells, and leases.
REPEATED = ("read", "list", "look", "use", "held", "old", "lease")

# By these alone may a sight become another.
CHANGING = ("folder", "file", "link", "move", "strike", "cut", "rights", "put")

# By these alone may any answer become another, but what is told of snapshots.
BINDING = {
    "folder": True, "file": True, "link": True, "move": True, "strike": True, "cut": True,
    "rights": True, "put": True, "limit": True, "share": True, "promise": True,
}

# These alone may find no room.
ROOM_SEEKING = ("link", "move", "rights", "limit", "share", "promise")


def is_tree_deed(thing):
    """Whether this is a deed that a Tree is told."""
    if not isinstance(thing, tuple) or not thing or not isinstance(thing[0], str):
        return False
    word = thing[0]
    check = FORMS[word] if word in FORMS else TREE_FORMS.get(word)
    return check is not None and check(thing)


def is_asked_deed(thing):
    """Whether this is a deed that an asker is asked."""
    if not isinstance(thing, tuple) or not thing or not isinstance(thing[0], str):
        return False
    word = thing[0]
    check = FORMS[word] if word in FORMS else ASKED_FORMS.get(word)
    return check is not None and check(thing)


def _is_of_path(deed):
    return len(deed) == 2 and is_path(deed[1])


def _is_of_two_paths(deed):
    return len(deed) == 3 and is_path(deed[1]) and is_path(deed[2])


def _is_cut(deed):
    return len(deed) == 3 and is_path(deed[1]) and is_count(deed[2])


def _is_rights(deed):
    if len(deed) != 5 or not is_path(deed[1]):
        return False
    return is_word(deed[2]) and is_word(deed[3]) and is_rights(deed[4])


def _is_limit(deed):
    return len(deed) == 3 and is_path(deed[1]) and _is_count_or_none(deed[2])


def _is_share(deed):
    return len(deed) == 3 and is_word(deed[1]) and _is_count_or_none(deed[2])


def _is_promise(deed):
    if len(deed) != 4 or not is_path(deed[1]):
        return False
    return _is_count_or_none(deed[2]) and is_from_to(deed[3], 1, MOST)


def _is_put(deed):
    return len(deed) == 3 and is_count(deed[1]) and _is_data(deed[2])


def _is_held(deed):
    return len(deed) == 2 and is_word(deed[1])


def _is_snap(deed):
    return len(deed) == 3 and is_path(deed[1]) and is_word(deed[2])


def _is_old(deed):
    return len(deed) == 3 and is_word(deed[1]) and is_path(deed[2])


def _is_lease(deed):
    return len(deed) == 3 and is_path(deed[1]) and is_from_to(deed[2], 1, LONGEST)


def _is_write(deed):
    if len(deed) != 4 or not is_path(deed[1]):
        return False
    return _is_count_or_none(deed[2]) and _is_data(deed[3])


def _is_glance(deed):
    if len(deed) != 2 or not isinstance(deed[1], tuple) or not deed[1]:
        return False
    inner = deed[1]
    return isinstance(inner[0], str) and inner[0] in GLANCED and _is_of_path(inner)


def _is_count_or_none(thing):
    return thing is None or is_count(thing)


def _is_data(thing):
    if not isinstance(thing, tuple) or not 1 <= len(thing) <= MOST:
        return False
    for cell in thing:
        if not isinstance(cell, int) or cell is True or cell is False:
            return False
    return True


# Of each word what tells whether a deed that begins with it is formed as one.
FORMS = {
    "folder": _is_of_path, "file": _is_of_path, "link": _is_of_two_paths, "move": _is_of_two_paths,
    "strike": _is_of_path, "cut": _is_cut, "rights": _is_rights,
    "read": _is_of_path, "list": _is_of_path, "look": _is_of_path,
    "limit": _is_limit, "share": _is_share, "use": _is_of_path, "held": _is_held,
    "snap": _is_snap, "old": _is_old, "lease": _is_lease, "back": _is_of_path,
}

# An asker isn't asked these, but what is made of them.
TREE_FORMS = {"promise": _is_promise, "put": _is_put, "sight": _is_of_path}

ASKED_FORMS = {"write": _is_write, "glance": _is_glance}
