"""Whether two things are the same one."""

from farfiles.wholes import is_whole


def is_alike(thing, known):
    """Whether a thing of any kind is the same as this one of tuples, texts, numbers and None.

    By == alone a truth would be a number.
    """
    if known is None:
        return thing is None
    if isinstance(known, str):
        return isinstance(thing, str) and thing == known
    if is_whole(known):
        return is_whole(thing) and thing == known
    if not isinstance(thing, tuple) or len(thing) != len(known):
        return False
    return all([is_alike(inner, other) for inner, other in zip(thing, known)])
