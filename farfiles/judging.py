"""The judge: whether what was told fits an order, and the order a plain tree."""

from farfiles.alike import is_alike
from farfiles.deeds import GLANCED
from farfiles.forms import check_forms
from farfiles.histories import History, last_put
from farfiles.sizes import BOUND
from farfiles.wholes import is_whole

# The names that piece houses may have.
KEEPERS = ("p0", "p1", "p2", "p3", "p4")


def judge(groups, users, order, told):
    """None where all fits, else ("order", AT) or ("told", QUESTION) of the first that doesn't."""
    check_forms(groups, users, order, told)
    needed = max([row[4] for row in told], default=0)
    judged = {row[0]: True for row in told}
    history = History(groups, users, max(needed, last_put(order)), judged)
    late = _late_rows(order, told)
    fitting = {}
    for row in order:
        if not history.takes(row):
            return ("order", row[0])
        for other in late.get(row[0], ()):
            fitting[other[0]] = _fits_behind(history, row, other)
    for row in told:
        question = row[0]
        if question in history.rows:
            fitting[question] = _fits_settled(history, row)
        # A place that isn't in the order leaves its row without any word.
        if not fitting.get(question, False):
            return ("told", question)
    return None


def _late_rows(order, told):
    """The rows told of questions that aren't in the order, by their place."""
    settled = {row[3]: True for row in order}
    found = {}
    for row in told:
        if row[0] not in settled:
            found.setdefault(row[4], []).append(row)
    return found


def _fits_settled(history, row):
    """Whether the row tells of a question in the order what the tree answered."""
    question, asker, deed, answer, place, age, _ = row
    last_place, _, known_asker, _, known = history.rows[question]
    if asker != known_asker or place != last_place or age != 0:
        return False
    outcome = history.outcomes[question]
    if not _is_of(deed, known, outcome, history.promises.get(question)):
        return False
    return _is_answered(known[0], answer, outcome)


def _is_of(deed, known, outcome, promise):
    """Whether the order's last deed, and the promise ahead of a put, are what was asked so."""
    if deed[0] != "write":
        return known == (deed[1] if deed[0] == "glance" else deed)
    _, path, place, data = deed
    wanted = ("promise", path, place, len(data))
    if known[0] == "put":
        return promise == wanted and known[2] == data
    # Of a promise that was done the put is still to be settled.
    return known == wanted and outcome[0] != "done"


def _fits_behind(history, row, other):
    """Whether a question that isn't in the order is told rightly by the row settled last."""
    place, when, leaser, _, leased = row
    _, asker, deed, answer, _, age, told_at = other
    inner = deed[1] if deed[0] == "glance" else deed
    if asker not in history.users or inner[0] not in GLANCED:
        return False
    by_lease = leased[0] == "lease" and leased[1] == inner[1] and leaser == asker
    of_old = deed[0] == "glance" and age == told_at - when and age <= BOUND
    if not of_old and not (by_lease and told_at < when + leased[2] and age == 0):
        return False
    return _is_answered(inner[0], answer, history.grove.reply(when, history.users[asker], inner))


def _is_answered(word, answer, known):
    """Whether this is the answer to a deed of this word, or tells rightly of lost cells."""
    if is_alike(answer, known):
        return True
    if word in ("read", "old"):
        return _is_lost(answer, known)
    if word == "lease":
        (look, inner), until = known[1]
        return _is_leased_lost(answer, look, inner, until)
    return False


def _is_leased_lost(answer, look, inner, until):
    """Whether a lease is answered so, with lost cells in the place of the sight's second answer."""
    if len(answer) != 2 or not isinstance(answer[1], tuple) or len(answer[1]) != 2:
        return False
    sight = answer[1][0]
    if not isinstance(sight, tuple) or len(sight) != 2 or not _is_lost(sight[1], inner):
        return False
    return is_alike(answer, ("told", ((look, sight[1]), until)))


def _is_lost(answer, known):
    """Whether this tells rightly that the cells, one at least, are lost."""
    if known[0] != "told" or not known[1] or not is_whole(known[1][0]):
        return False
    if not isinstance(answer, tuple) or len(answer) != 2 or answer[0] != "lost":
        return False
    return _are_keepers(answer[1])


def _are_keepers(thing):
    """Whether these are growing names of piece houses, one at least."""
    if not isinstance(thing, tuple) or not thing:
        return False
    ahead = ""
    for name in thing:
        if not isinstance(name, str) or name not in KEEPERS or name <= ahead:
            return False
        ahead = name
    return True
