"""How deeds are formed: those that a Tree is told, and those that an asker is asked."""

from farfiles.sizes import LONGEST, MOST
from farfiles.wholes import is_count, is_from_to, is_whole
from farfiles.words import is_path, is_rights, is_word

# Behind each word of a deed stands what belongs to it, in its order.
TREE_FORMS = {
    "folder": ("path",), "file": ("path",), "link": ("path", "path"),
    "move": ("path", "path"), "strike": ("path",), "cut": ("path", "count"),
    "rights": ("path", "word", "word", "rights"),
    "read": ("path",), "list": ("path",), "look": ("path",), "sight": ("path",),
    "limit": ("path", "count or none"), "share": ("word", "count or none"),
    "promise": ("path", "count or none", "cells"), "put": ("count", "data"),
    "use": ("path",), "held": ("word",),
    "snap": ("path", "word"), "old": ("word", "path"),
    "lease": ("path", "ticks"), "back": ("path",),
}

# An asker isn't asked these, but what is made of them.
NOT_ASKED = ("promise", "put", "sight")

ASKED_FORMS = {
    "write": ("path", "count or none", "data"),
    "glance": ("glanced",),
}

# What is told of one path, and of old by a glance.
GLANCED = ("read", "list", "look")

# What only tells.
TELLING = ("read", "list", "look", "use", "held", "old", "glance")

# What may stand in an order again and again: what only tells, and leases.
REPEATED = ("read", "list", "look", "use", "held", "old", "lease")

# By these alone may a sight become another.
CHANGING = ("folder", "file", "link", "move", "strike", "cut", "rights", "put")


def is_tree_deed(thing):
    """Whether this is a deed that a Tree is told."""
    if not _has_word(thing) or thing[0] not in TREE_FORMS:
        return False
    return _is_formed(thing, TREE_FORMS[thing[0]])


def is_asked_deed(thing):
    """Whether this is a deed that an asker is asked."""
    if not _has_word(thing) or thing[0] in NOT_ASKED:
        return False
    if thing[0] in ASKED_FORMS:
        return _is_formed(thing, ASKED_FORMS[thing[0]])
    return is_tree_deed(thing)


def _has_word(thing):
    return isinstance(thing, tuple) and len(thing) > 0 and isinstance(thing[0], str)


def _is_formed(deed, form):
    if len(deed) != len(form) + 1:
        return False
    return all([_is_such(kind, thing) for kind, thing in zip(form, deed[1:])])


def _is_such(kind, thing):
    check = CHECKS[kind]
    return check(thing)


def _path(thing):
    return is_path(thing)


def _word(thing):
    return is_word(thing)


def _rights(thing):
    return is_rights(thing)


def _count(thing):
    return is_count(thing)


def _count_or_none(thing):
    return thing is None or is_count(thing)


def _cells(thing):
    return is_from_to(thing, 1, MOST)


def _ticks(thing):
    return is_from_to(thing, 1, LONGEST)


def _data(thing):
    if not isinstance(thing, tuple) or not 1 <= len(thing) <= MOST:
        return False
    return all([is_whole(cell) for cell in thing])


def _glanced(thing):
    return _has_word(thing) and thing[0] in GLANCED and len(thing) == 2 and is_path(thing[1])


CHECKS = {
    "path": _path, "word": _word, "rights": _rights, "count": _count,
    "count or none": _count_or_none, "cells": _cells, "ticks": _ticks,
    "data": _data, "glanced": _glanced,
}
