"""Whether two things are the same one."""

from farfiles.wholes import is_whole


def is_alike(thing, known):
    """Whether a thing of any kind is the same as this one of tuples, texts, numbers and None.

    By == alone a truth would be a number.
    """
    if not isinstance(known, tuple):
        return _is_same(thing, known)
    if not isinstance(thing, tuple) or len(thing) != len(known):
        return False
    for inner, other in zip(thing, known):
        if isinstance(other, tuple):
            if not is_alike(inner, other):
                return False
        elif not _is_same(inner, other):
            return False
    return True


def _is_same(thing, known):
    """The same, where the known one is no tuple."""
    if isinstance(known, str):
        return isinstance(thing, str) and thing == known
    if known is None:
        return thing is None
    return is_whole(thing) and thing == known
