"""What a whole number is."""


def is_whole(thing):
    """Whether this is a whole number: an int that is no truth."""
    return isinstance(thing, int) and thing is not True and thing is not False


def is_count(thing):
    """Whether this is a whole number from 0 on."""
    return isinstance(thing, int) and thing is not True and thing is not False and thing >= 0


def is_from_to(thing, low, high):
    """Whether this is a whole number from the low to the high one."""
    return is_whole(thing) and low <= thing <= high
