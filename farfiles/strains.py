"""Whose limit a deed that is answered with noroom would break."""

from farfiles.deeds import ROOM_SEEKING
from farfiles.histories import History, last_put


def strains_at(groups, users, order, place):
    """(WHO, LIMIT, USE) of each limit and share that the deed at this place would break.

    None are told where it isn't answered with noroom, or where something is found in
    the order.
    """
    if not any([row[0] == place and row[4][0] in ROOM_SEEKING for row in order]):
        return []
    history = History(groups, users, max(place, last_put(order)), {})
    core = history.grove.core
    strains = []
    for row in order:
        core.is_watched = row[0] == place
        if not history.takes(row):
            return []
        if core.is_watched:
            if history.outcomes[row[3]] != ("no", "noroom"):
                return []
            strains = core.strains
    return strains
