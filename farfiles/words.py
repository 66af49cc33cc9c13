"""What words, paths, rights and groups are, and who may do what by them."""

from farfiles.errors import NoGroups, NoRights, NoSign, NoWord
from farfiles.sizes import ROOT

MOST_LETTERS = 8
MOST_NAMES = 6
MOST_GROUPS = 8
SIGNS = ("r", "w")
RIGHTS_TEXTS = ("", "r", "w", "rw")


def is_word(thing):
    """Whether this is a WORD: a text of one to eight small letters."""
    if not isinstance(thing, str):
        return False
    if not 1 <= len(thing) <= MOST_LETTERS:
        return False
    # isalpha and islower let letters beyond a to z through.
    return all(["a" <= letter <= "z" for letter in thing])


def is_path(thing):
    """Whether this is a PATH: a tuple of none to six WORDs."""
    if not isinstance(thing, tuple):
        return False
    return len(thing) <= MOST_NAMES and all([is_word(name) for name in thing])


def is_rights(thing):
    """Whether these are RIGHTS: three texts, the owner's, the group's, all others'."""
    if not isinstance(thing, tuple):
        return False
    return len(thing) == 3 and all([_is_one_of(text, RIGHTS_TEXTS) for text in thing])


def is_groups(thing):
    """Whether these are GROUPS: at most eight growing (GROUP, USERS)."""
    if not isinstance(thing, tuple) or len(thing) > MOST_GROUPS:
        return False
    if not all([_is_group(row) for row in thing]):
        return False
    # No GROUP may stand twice, so the groups alone must grow, not the rows.
    return _grows([row[0] for row in thing])


def may(groups, user, sign, *, owner, group, rights):
    """Whether the user may do the sign to a thing of this owner, group and rights."""
    if not is_groups(groups):
        raise NoGroups(groups)
    if not is_word(user):
        raise NoWord(user)
    if not _is_one_of(sign, SIGNS):
        raise NoSign(sign)
    if not is_word(owner):
        raise NoWord(owner)
    if not is_word(group):
        raise NoWord(group)
    if not is_rights(rights):
        raise NoRights(rights)
    if user == ROOT:
        return True
    owners, members, others = rights
    if user == owner:
        return sign in owners
    if user in _users_of(groups, group):
        return sign in members
    return sign in others


def _is_one_of(thing, texts):
    return isinstance(thing, str) and thing in texts


def _is_group(thing):
    """Whether this is one (GROUP, USERS)."""
    if not isinstance(thing, tuple) or len(thing) != 2:
        return False
    return is_word(thing[0]) and _is_users(thing[1])


def _is_users(thing):
    """Whether these are USERS of a group: growing WORDs, perhaps none."""
    if not isinstance(thing, tuple):
        return False
    return all([is_word(user) for user in thing]) and _grows(thing)


def _grows(words):
    """Whether each word is more than the one ahead."""
    return all([low < high for low, high in zip(words, words[1:])])


def _users_of(groups, group):
    for name, users in groups:
        if name == group:
            return users
    return ()
