"""Whose limit a deed that is answered with noroom would break."""

from farfiles.cores import trial_of
from farfiles.histories import History
from farfiles.room import held, used


def strains_at(groups, users, order, place):
    """(WHO, LIMIT, USE) of each limit that the deed at this place would break.

    None are told where it isn't answered with noroom.
    """
    history = History(groups, users)
    for row in order:
        answer = history.go_on(row)
        if row[0] == place:
            if answer != ("no", "noroom"):
                return []
            _, when, asker, _, deed = row
            # Refused, it changed nothing: the tree still is as it was ahead.
            return _strains(history.tree.core, when, history.users[asker], deed)
    return []


def _strains(core, when, user, deed):
    trial = trial_of(core)
    trial.is_bounded = False
    trial.act(when, user, deed)
    return _full_folders(trial) + _full_users(trial)


def _full_folders(core):
    """(PATH, LIMIT, USE) of each folder that has more than its limit, growing."""
    rows = []
    waiting = [((), core.top)]
    while waiting:
        path, node = waiting.pop()
        if node.names is None:
            continue
        for name, below in node.names.items():
            waiting.append(((*path, name), below))
        if node.limit is not None and used(node) > node.limit:
            rows.append((path, node.limit, used(node)))
    return sorted(rows)


def _full_users(core):
    """(USER, SHARE, USE) of each user who has more than the share, growing."""
    rows = [(user, many, held(core, user)) for user, many in core.shares.items()]
    return sorted([row for row in rows if row[2] > row[1]])
