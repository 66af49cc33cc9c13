"""The checker: whether a claim with its paper is true."""

from farfiles.alike import is_alike
from farfiles.errors import FarError
from farfiles.forms import check_forms
from farfiles.histories import stayed_sight
from farfiles.judging import judge
from farfiles.strains import strains_at
from farfiles.wholes import is_whole
from farfiles.words import is_path, is_word


def holds(claim, paper):
    """Whether the claim, with this paper, is taken; both may be things of any kind."""
    if not isinstance(claim, tuple) or not claim:
        return False
    word = claim[0]
    if not isinstance(word, str) or word not in CLAIMS or len(claim) != LENGTHS[word]:
        return False
    check = CLAIMS[word]
    try:
        return check(claim, paper)
    except FarError:
        return False


def _fits(claim, paper):
    _, groups, users, order, told = claim
    return paper is None and judge(groups, users, order, told) is None


def _apart(claim, paper):
    _, groups, users, order, told = claim
    # What is found is such a tuple; of all else it needn't be looked for.
    if not isinstance(paper, tuple) or len(paper) != 2:
        return False
    found = judge(groups, users, order, told)
    return found is not None and is_alike(paper, found)


def _newest(claim, paper):
    _, groups, users, order, user, path, sight, place = claim
    if paper is not None or not is_word(user) or not is_path(path):
        return False
    check_forms(groups, users, order, ())
    if not _is_place_of(order, place):
        return False
    stayed = stayed_sight(groups, users, order, user, path, place)
    return stayed is not None and is_alike(sight, stayed)


def _noroom(claim, paper):
    _, groups, users, order, place = claim
    if not isinstance(paper, tuple) or len(paper) != 3:
        return False
    check_forms(groups, users, order, ())
    if not _is_place_of(order, place):
        return False
    return any([is_alike(paper, row) for row in strains_at(groups, users, order, place)])


def _is_place_of(order, place):
    return is_whole(place) and place in [row[0] for row in order]


CLAIMS = {"fits": _fits, "apart": _apart, "newest": _newest, "noroom": _noroom}

LENGTHS = {"fits": 5, "apart": 5, "newest": 8, "noroom": 5}
