"""Whose limit a deed that is answered with noroom would break."""

from farfiles.deeds import ROOM_SEEKING
from farfiles.histories import History, last_put


def strains_at(groups, users, order, place):
    """(WHO, LIMIT, USE) of each limit and share that the deed at this place would break.

    None are told where it isn't answered with noroom, or where something is found in
    the order.
    """
    asked = [row for row in order if row[0] == place]
    # Where a place stands twice this is found in the order, whatever deeds stand there.
    if len(asked) != 1 or asked[0][4][0] not in ROOM_SEEKING:
        return []
    history = History(groups, users, max(place, last_put(order)), {})
    core = history.grove.core
    strains = []
    for row in order:
        core.is_watched = row[0] == place
        if not history.takes(row):
            return []
        if core.is_watched:
            if history.outcomes[row[3]] != ("no", "noroom"):
                return []
            strains = core.strains
    return strains
