"""The forms of the rows of an order, and of the rows of what was told."""

from farfiles.deeds import is_asked_deed, is_tree_deed
from farfiles.errors import NoGroups, NoOrder, NoRows, NoUsers
from farfiles.wholes import is_count
from farfiles.words import is_groups, is_users

# An answer begins with one of these.
ANSWER_WORDS = ("done", "told", "no", "lost")


def check_forms(groups, users, order, told):
    """Refuse what isn't formed as what is judged must be."""
    if not is_groups(groups):
        raise NoGroups(groups)
    if not is_users(users):
        raise NoUsers(users)
    _check_order(order)
    _check_told(told)


def _check_order(order):
    if not isinstance(order, tuple):
        raise NoOrder(None)
    for at, row in enumerate(order):
        if not _is_order_row(row):
            raise NoOrder(at)


def _check_told(told):
    if not isinstance(told, tuple):
        raise NoRows(None)
    ahead = -1
    for at, row in enumerate(told):
        if not _is_told_row(row) or row[0] <= ahead:
            raise NoRows(at)
        ahead = row[0]


def _is_order_row(thing):
    """Whether this is (AT, TICK, ASKER, QUESTION, DEED)."""
    if not isinstance(thing, tuple) or len(thing) != 5:
        return False
    place, when, asker, question, deed = thing
    return _are_numbers(place, when, question) and isinstance(asker, str) and is_tree_deed(deed)


def _is_told_row(thing):
    """Whether this is (QUESTION, ASKER, DEED, ANSWER, AT, AGE, TICK)."""
    if not isinstance(thing, tuple) or len(thing) != 7:
        return False
    question, asker, deed, answer, place, age, when = thing
    if not _are_numbers(place, when, question) or not is_count(age):
        return False
    return isinstance(asker, str) and is_asked_deed(deed) and _is_answer(answer)


def _are_numbers(place, when, question):
    """Whether these are whole numbers, the place from 1, the others from 0 on.

    Rows are many, and a look at each number by itself would cost as much as all the rest.
    """
    if not (isinstance(place, int) and isinstance(when, int) and isinstance(question, int)):
        return False
    # A truth is an int, too; False is no place anyway.
    if place is True or when is True or when is False or question is True or question is False:
        return False
    return place >= 1 and when >= 0 and question >= 0


def _is_answer(thing):
    if not isinstance(thing, tuple) or not thing:
        return False
    return isinstance(thing[0], str) and thing[0] in ANSWER_WORDS
