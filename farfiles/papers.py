"""The house's papers: claims that are true, each with the paper by which it is taken."""

from farfiles.errors import NoDeed, NoPlace, NoWord
from farfiles.forms import check_forms
from farfiles.histories import stayed_sight
from farfiles.judging import judge
from farfiles.strains import strains_at
from farfiles.wholes import is_whole
from farfiles.words import is_path, is_word


def paper_told(groups, users, order, told):
    """The claim that what was told fits the order, or that it doesn't."""
    found = judge(groups, users, order, told)
    word = "fits" if found is None else "apart"
    return ((word, groups, users, order, told), found)


def paper_newest(groups, users, order, *, user, path, place):
    """The claim that the path's sight stayed as it was from this place on, None where it changed."""
    check_forms(groups, users, order, ())
    if not is_word(user):
        raise NoWord(user)
    if not is_path(path):
        raise NoDeed(path)
    _check_place(order, place)
    sight = stayed_sight(groups, users, order, user, path, place)
    if sight is None:
        return None
    return (("newest", groups, users, order, user, path, sight, place), None)


def paper_room(groups, users, order, place):
    """The claim that the deed at this place found no room, None where it isn't answered so."""
    check_forms(groups, users, order, ())
    _check_place(order, place)
    strains = strains_at(groups, users, order, place)
    return (("noroom", groups, users, order, place), strains[0]) if strains else None


def _check_place(order, place):
    """Refuse what is no place of the order."""
    if not is_whole(place) or place not in [row[0] for row in order]:
        raise NoPlace(place)
