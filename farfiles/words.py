"""What words, paths, rights and groups are, and who may do what by them."""

from farfiles.errors import NoGroups, NoRights, NoSign, NoWord
from farfiles.sizes import ROOT

LETTERS = "abcdefghijklmnopqrstuvwxyz"
MOST_LETTERS = 8
MOST_NAMES = 6
MOST_GROUPS = 8
MOST_USERS = 4
SIGNS = ("r", "w")
RIGHTS_TEXTS = ("", "r", "w", "rw")


def is_word(thing):
    """Whether this is a WORD: a text of one to eight small letters."""
    if not isinstance(thing, str):
        return False
    return 1 <= len(thing) <= MOST_LETTERS and not thing.strip(LETTERS)


def is_path(thing):
    """Whether this is a PATH: a tuple of none to six WORDs."""
    if not isinstance(thing, tuple) or len(thing) > MOST_NAMES:
        return False
    for name in thing:
        if not isinstance(name, str) or not name or len(name) > MOST_LETTERS or name.strip(LETTERS):
            return False
    return True


def is_rights(thing):
    """Whether these are RIGHTS: three texts, the owner's, the group's, all others'."""
    if not isinstance(thing, tuple):
        return False
    if len(thing) != 3:
        return False
    owners, members, others = thing
    return _is_rights_text(owners) and _is_rights_text(members) and _is_rights_text(others)


def is_groups(thing):
    """Whether these are GROUPS: at most eight growing (GROUP, USERS)."""
    if not isinstance(thing, tuple) or len(thing) > MOST_GROUPS:
        return False
    # No GROUP may stand twice, so the groups alone must grow, not the rows.
    ahead = ""
    for row in thing:
        if not isinstance(row, tuple) or len(row) != 2:
            return False
        group, users = row
        if not is_word(group) or group <= ahead or not _is_members(users):
            return False
        ahead = group
    return True


def is_users(thing):
    """Whether these are USERS of a World: one to four WORDs, perhaps alike."""
    if not isinstance(thing, tuple) or not 1 <= len(thing) <= MOST_USERS:
        return False
    return all([is_word(user) for user in thing])


def may(groups, user, sign, *, owner, group, rights):
    """Whether the user may do the sign to a thing of this owner, group and rights."""
    if not is_groups(groups):
        raise NoGroups(groups)
    if not is_word(user):
        raise NoWord(user)
    if not isinstance(sign, str) or sign not in SIGNS:
        raise NoSign(sign)
    if not is_word(owner):
        raise NoWord(owner)
    if not is_word(group):
        raise NoWord(group)
    if not is_rights(rights):
        raise NoRights(rights)
    if user == ROOT:
        return True
    owners, members, others = rights
    if user == owner:
        return sign in owners
    if user in _users_of(groups, group):
        return sign in members
    return sign in others


def _is_rights_text(thing):
    return isinstance(thing, str) and thing in RIGHTS_TEXTS


def _is_members(thing):
    """Whether these are USERS of a group: growing WORDs, perhaps none."""
    if not isinstance(thing, tuple):
        return False
    ahead = ""
    for user in thing:
        # Nothing is less than the first "", so an empty text is no user.
        if not isinstance(user, str) or user <= ahead or len(user) > MOST_LETTERS:
            return False
        ahead = user
    return not "".join(thing).strip(LETTERS)


def _users_of(groups, group):
    for name, users in groups:
        if name == group:
            return users
    return ()
