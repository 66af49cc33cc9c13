"""Room: limits and shares, promised cells, and what is in use."""

from farfiles.nodes import DONE, Refused, file_at, files_below, folder_at, must_let, must_own
from farfiles.parts import spliced
from farfiles.sizes import PATIENCE, ROOT


class Promise:
    """Cells to be written into a file by its user, up to a tick."""

    def __init__(self, file, user, place, many, until):
        self.file = file
        self.user = user
        self.place = place
        self.many = many
        self.until = until


def has_room(core):
    """Whether no limit and no share is less than its use, as far as any bounds the tree."""
    if not core.is_bounded:
        return True
    for folder in core.limited:
        if used(folder) > folder.limit:
            return False
    for user, many in core.shares.items():
        if held(core, user) > many:
            return False
    return True


def used(folder):
    """How many cells the files in the folder or below have or are promised."""
    return sum([file.size + file.promised for file in files_below(folder)])


def held(core, user):
    """How many cells the files of the user have or are promised."""
    files = files_below(core.top)
    return sum([file.size + file.promised for file in files if file.owner == user])


def lapse(core):
    """Forget the promises that stand no more at the tick of the core."""
    for number, promise in list(core.promises.items()):
        # They stand in the order of their ticks, which never fall.
        if promise.until >= core.clock:
            break
        _forget(core, number)


def room_deed(core, user, deed):
    """Answer a deed about room."""
    action = ACTIONS[deed[0]]
    return action(core, user, deed)


def _forget(core, number):
    promise = core.promises[number]
    file = promise.file
    file.promised -= promise.many
    del core.promises[number]


def _limit(core, user, deed):
    _, path, many = deed
    folder = folder_at(core, user, path)
    must_own(user, folder)
    if many is None:
        core.limited.pop(folder, None)
    elif core.is_bounded and used(folder) > many:
        raise Refused("noroom")
    else:
        core.limited[folder] = True
    folder.limit = many
    return DONE


def _share(core, user, deed):
    _, whose, many = deed
    if user != ROOT:
        raise Refused("noright")
    if many is None:
        core.shares.pop(whose, None)
    elif core.is_bounded and held(core, whose) > many:
        raise Refused("noroom")
    else:
        core.shares[whose] = many
    return DONE


def _promise(core, user, deed):
    _, path, place, many = deed
    file = file_at(core, user, path)
    must_let(core, user, "w", file)
    if place is not None and place > file.size:
        raise Refused("noplace")
    file.promised += many
    if not has_room(core):
        file.promised -= many
        raise Refused("noroom")
    core.made += 1
    core.promises[core.made] = Promise(file, user, place, many, core.clock + PATIENCE)
    return ("done", core.made)


def _put(core, user, deed):
    """Put so many cells of the piece that has the number of the promise."""
    _, number, many = deed
    promise = core.promises.get(number)
    if promise is None or promise.user != user or promise.many != many:
        raise Refused("late")
    # From here on the promise is gone, whatever the answer.
    _forget(core, number)
    file = promise.file
    if file.links == 0:
        raise Refused("nofile")
    must_let(core, user, "w", file)
    place = file.size if promise.place is None else promise.place
    if place > file.size:
        raise Refused("noplace")
    file.parts = spliced(file.parts, ((number, 0, many),), place)
    file.size = max(file.size, place + many)
    return DONE


def _use(core, user, deed):
    folder = folder_at(core, user, deed[1])
    must_let(core, user, "r", folder)
    return ("told", (used(folder), folder.limit))


def _held(core, user, deed):
    whose = deed[1]
    if user != whose and user != ROOT:
        raise Refused("noright")
    return ("told", (held(core, whose), core.shares.get(whose)))


ACTIONS = {
    "limit": _limit, "share": _share, "promise": _promise, "put": _put,
    "use": _use, "held": _held,
}
