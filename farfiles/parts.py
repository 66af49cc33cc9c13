"""PARTS: which cells of which pieces stand in a file, one behind the other."""

from farfiles.errors import NoParts, NoPiece, NoPlace
from farfiles.wholes import is_from_to, is_whole


def is_parts(thing):
    """Whether these are PARTS: a tuple of (PIECE, FROM, MANY)."""
    if not isinstance(thing, tuple):
        return False
    return all([_is_part(part) for part in thing])


def length(parts):
    """How many cells the parts have."""
    if not is_parts(parts):
        raise NoParts(parts)
    return _total(parts)


def put(parts, more, *, place=None):
    """The parts with others from a place on, in the place of as many cells as those have."""
    if not is_parts(parts):
        raise NoParts(parts)
    if not is_parts(more):
        raise NoParts(more)
    total = _total(parts)
    if place is None:
        return spliced(parts, more, total)
    if not is_from_to(place, 0, total):
        raise NoPlace(place)
    return spliced(parts, more, place)


def cut(parts, many):
    """The parts of the first so many cells."""
    if not is_parts(parts):
        raise NoParts(parts)
    if not is_from_to(many, 0, _total(parts)):
        raise NoPlace(many)
    return shortened(parts, many)


def cells(parts, pieces):
    """The cells of the parts, by a dict of the cells of each piece."""
    if not is_parts(parts):
        raise NoParts(parts)
    for piece, first, many in parts:
        if piece not in pieces or first + many > len(pieces[piece]):
            raise NoPiece(piece)
    return tuple(gathered(parts, pieces))


def spliced(parts, more, place):
    """What put tells, of parts and a place that are surely such."""
    ahead = _first_cells(parts, place)
    behind = _cells_behind(parts, place + _total(more))
    return _joined([*ahead, *more, *behind])


def shortened(parts, many):
    """What cut tells, of parts and a number that are surely such."""
    return _joined(_first_cells(parts, many))


def gathered(parts, pieces):
    """What cells tells, of parts and pieces that surely have them."""
    if len(parts) == 1:
        piece, first, many = parts[0]
        return pieces[piece][first:first + many]
    found = []
    for piece, first, many in parts:
        found.extend(pieces[piece][first:first + many])
    return tuple(found)


def _is_part(thing):
    if not isinstance(thing, tuple) or len(thing) != 3:
        return False
    piece, first, many = thing
    if not (is_whole(piece) and is_whole(first) and is_whole(many)):
        return False
    return piece >= 1 and first >= 0 and many >= 1


def _total(parts):
    return sum([many for _, _, many in parts])


def _first_cells(parts, many):
    """The parts of the first so many cells, as a list."""
    taken = []
    left = many
    for piece, first, here in parts:
        if left <= 0:
            break
        taken.append((piece, first, min(here, left)))
        left -= here
    return taken


def _cells_behind(parts, many):
    """The parts of what stands behind the first so many cells, as a list."""
    taken = []
    left = many
    for piece, first, here in parts:
        if left <= 0:
            taken.append((piece, first, here))
        elif left < here:
            taken.append((piece, first + left, here - left))
        left -= here
    return taken


def _joined(parts):
    """The parts, those that go on in one piece as one."""
    rows = []
    for piece, first, many in parts:
        if rows and _goes_on(rows[-1], piece, first):
            _, start, ahead = rows[-1]
            rows[-1] = (piece, start, ahead + many)
        else:
            rows.append((piece, first, many))
    return tuple(rows)


def _goes_on(part, piece, first):
    ahead, start, many = part
    return ahead == piece and start + many == first
