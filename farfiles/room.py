"""Room: limits and shares, promised cells, and what is in use."""

from farfiles.nodes import DONE, NO_RIGHT, file_at, folder_at, lets, owns
from farfiles.parts import spliced
from farfiles.sizes import PATIENCE, ROOT

# The answer to a deed behind which something would have more than its limit.
NO_ROOM = ("no", "noroom")


class Promise:
    """Cells to be written into a file by its user, up to a tick."""

    def __init__(self, file, user, place, many, until):
        self.file = file
        self.user = user
        self.place = place
        self.many = many
        self.until = until


def has_room(core):
    """Whether no limit and no share is less than its use; a watched core notes which ones are."""
    if not core.limited and not core.shares:
        return True
    if core.is_watched:
        core.strains = _strained_folders(core) + _strained_users(core)
        return not core.strains
    for folder in core.limited:
        if used(folder) > folder.limit:
            return False
    for user, many in core.shares.items():
        if held(core, user) > many:
            return False
    return True


def used(folder):
    """How many cells the files in the folder or below have or are promised."""
    return _weight(folder, None)


def held(core, user):
    """How many cells the files of the user have or are promised."""
    return _weight(core.top, user)


def lapse(core):
    """Forget the promises that stand no more at the tick of the core."""
    promises = core.promises
    while promises:
        # They stand in the order of their ticks, which never fall.
        number = next(iter(promises), 0)
        if promises[number].until >= core.clock:
            return
        _forget(core, number)


def room_deed(core, user, deed):
    """Answer a deed about room."""
    action = ACTIONS[deed[0]]
    return action(core, user, deed)


def _forget(core, number):
    promise = core.promises.pop(number)
    file = promise.file
    file.promised -= promise.many


def _weight(folder, owner):
    """How many cells the files below, of this owner if any, have or are promised, each file once."""
    linked = {}
    many = _weight_of_single(folder, owner, linked)
    return many + sum([file.size + file.promised for file in linked])


def _weight_of_single(folder, owner, linked):
    """The same of the files that have one name; linked gets the others."""
    many = 0
    for node in folder.names.values():
        if node.names is not None:
            many += _weight_of_single(node, owner, linked)
        elif owner is not None and node.owner != owner:
            continue
        elif node.links == 1:
            many += node.size + node.promised
        else:
            linked[node] = True
    return many


def _strained_folders(core):
    """(PATH, LIMIT, USE) of each folder that has more than its limit, growing."""
    rows = []
    waiting = [((), core.top)]
    while waiting:
        path, folder = waiting.pop()
        for name, below in folder.names.items():
            if below.names is not None:
                waiting.append(((*path, name), below))
        if folder.limit is not None and used(folder) > folder.limit:
            rows.append((path, folder.limit, used(folder)))
    return sorted(rows)


def _strained_users(core):
    """(USER, SHARE, USE) of each user who has more than the share, growing."""
    rows = [(user, many, held(core, user)) for user, many in core.shares.items()]
    return sorted([row for row in rows if row[2] > row[1]])


def _limit(core, user, deed):
    _, path, many = deed
    folder = folder_at(core, user, path)
    if isinstance(folder, str):
        return ("no", folder)
    if not owns(user, folder):
        return NO_RIGHT
    if many is None:
        core.limited.pop(folder, None)
    elif used(folder) > many:
        core.strains = [(path, many, used(folder))]
        return NO_ROOM
    else:
        core.limited[folder] = True
    folder.limit = many
    return DONE


def _share(core, user, deed):
    _, whose, many = deed
    if user != ROOT:
        return NO_RIGHT
    if many is None:
        core.shares.pop(whose, None)
    elif held(core, whose) > many:
        core.strains = [(whose, many, held(core, whose))]
        return NO_ROOM
    else:
        core.shares[whose] = many
    return DONE


def _promise(core, user, deed):
    _, path, place, many = deed
    file = file_at(core, user, path, "w")
    if isinstance(file, str):
        return ("no", file)
    if place is not None and place > file.size:
        return ("no", "noplace")
    file.promised += many
    if not has_room(core):
        file.promised -= many
        return NO_ROOM
    core.made += 1
    core.promises[core.made] = Promise(file, user, place, many, core.clock + PATIENCE)
    return ("done", core.made)


def _put(core, user, deed):
    """Put so many cells of the piece that has the number of the promise."""
    _, number, many = deed
    promise = core.promises.get(number)
    if promise is None or promise.user != user or promise.many != many:
        return ("no", "late")
    # From here on the promise is gone, whatever the answer.
    _forget(core, number)
    file = promise.file
    if file.links == 0:
        return ("no", "nofile")
    if not lets(core.members, user, "w", file):
        return NO_RIGHT
    place = file.size if promise.place is None else promise.place
    if place > file.size:
        return ("no", "noplace")
    file.parts = _with_piece(file, number, place, many)
    file.size = max(file.size, place + many)
    return DONE


def _with_piece(file, number, place, many):
    """The file's parts with so many cells of the piece, which none of them has, from the place on."""
    part = (number, 0, many)
    return (*file.parts, part) if place == file.size else spliced(file.parts, (part,), place)


def _use(core, user, deed):
    folder = folder_at(core, user, deed[1])
    if isinstance(folder, str):
        return ("no", folder)
    if not lets(core.members, user, "r", folder):
        return NO_RIGHT
    return ("told", (used(folder), folder.limit))


def _held(core, user, deed):
    whose = deed[1]
    if user != whose and user != ROOT:
        return NO_RIGHT
    return ("told", (held(core, whose), core.shares.get(whose)))


ACTIONS = {
    "limit": _limit, "share": _share, "promise": _promise, "put": _put,
    "use": _use, "held": _held,
}
