"""The judge: whether what was told fits an order, and the order a plain tree."""

from farfiles.alike import is_alike
from farfiles.deeds import GLANCED
from farfiles.forms import check_forms
from farfiles.histories import History
from farfiles.sizes import BOUND
from farfiles.wholes import is_whole

# The names that piece houses may have.
KEEPERS = ("p0", "p1", "p2", "p3", "p4")


def judge(groups, users, order, told):
    """None where all fits, else ("order", AT) or ("told", QUESTION) of the first that doesn't."""
    check_forms(groups, users, order, told)
    history = History(groups, users)
    settled = {row[3]: True for row in order}
    late = _rows_by_place([row for row in told if row[0] not in settled])
    fitting = {}
    for row in order:
        if not history.may_stand(row):
            return ("order", row[0])
        history.go_on(row)
        for other in late.get(row[0], []):
            fitting[other[0]] = _fits_behind(history, row, other)
    for row in told:
        question = row[0]
        if question in settled:
            fitting[question] = _fits_settled(history.questions[question], row)
        # A place that isn't in the order leaves its row without any word.
        if not fitting.get(question, False):
            return ("told", question)
    return None


def _rows_by_place(rows):
    found = {}
    for row in rows:
        found.setdefault(row[4], []).append(row)
    return found


def _fits_settled(settled, row):
    """Whether the row tells of a question in the order what the tree answered."""
    _, asker, deed, answer, place, age, _ = row
    if asker != settled.asker or place != settled.place or age != 0:
        return False
    if not _is_of(settled, deed):
        return False
    return _is_answered(settled.deeds[-1][0], answer, settled.outcome)


def _is_of(settled, deed):
    """Whether the order's deeds are what was asked so, and nothing is left to be settled."""
    if deed[0] == "write":
        _, path, place, data = deed
        if settled.deeds[0] != ("promise", path, place, len(data)):
            return False
        if len(settled.deeds) == 1:
            return settled.outcome[0] != "done"
        return settled.deeds[1][2] == data
    return settled.deeds[0] == (deed[1] if deed[0] == "glance" else deed)


def _fits_behind(history, row, other):
    """Whether a question that isn't in the order is told rightly by the row settled last."""
    place, when, leaser, _, leased = row
    _, asker, deed, answer, _, age, told_at = other
    inner = deed[1] if deed[0] == "glance" else deed
    if asker not in history.users or inner[0] not in GLANCED:
        return False
    by_lease = leased[0] == "lease" and leased[1] == inner[1] and leaser == asker
    of_old = deed[0] == "glance" and age == told_at - when and age <= BOUND
    if not of_old and not (by_lease and told_at < when + leased[2] and age == 0):
        return False
    return _is_answered(inner[0], answer, history.tree.do(when, history.users[asker], inner))


def _is_answered(word, answer, known):
    """Whether this is the answer to a deed of this word, or tells rightly of lost cells."""
    if is_alike(answer, known):
        return True
    if word in ("read", "old"):
        return _is_lost(answer, known)
    if word == "lease":
        (look, inner), until = known[1]
        return _is_leased_lost(answer, look, inner, until)
    return False


def _is_leased_lost(answer, look, inner, until):
    """Whether a lease is answered so, with lost cells in the place of the sight's second answer."""
    if len(answer) != 2 or not isinstance(answer[1], tuple) or len(answer[1]) != 2:
        return False
    sight = answer[1][0]
    if not isinstance(sight, tuple) or len(sight) != 2 or not _is_lost(sight[1], inner):
        return False
    return is_alike(answer, ("told", ((look, sight[1]), until)))


def _is_lost(answer, known):
    """Whether this tells rightly that the cells, one at least, are lost."""
    if known[0] != "told" or not known[1] or not is_whole(known[1][0]):
        return False
    if not isinstance(answer, tuple) or len(answer) != 2 or answer[0] != "lost":
        return False
    return _are_keepers(answer[1])


def _are_keepers(thing):
    """Whether these are growing names of piece houses, one at least."""
    if not isinstance(thing, tuple) or not thing:
        return False
    ahead = ""
    for name in thing:
        if not isinstance(name, str) or name not in KEEPERS or name <= ahead:
            return False
        ahead = name
    return True
