"""The judge of the document's point 17 once more, as simply as can be.

For each row all is worked out anew from the first one on. What is compared is
compared by its written form, so that a truth is no number and a list no tuple.
"""

from farfiles.trees import Tree

REPEATED = ("read", "list", "look", "use", "held", "old", "lease")
KEEPERS = ("p0", "p1", "p2", "p3", "p4")


def verdict(groups, users, order, told):
    names = {f"a{at}": user for at, user in enumerate(users)}
    for at, row in enumerate(order):
        if not stands(groups, names, order[:at], row):
            return ("order", row[0])
    for row in told:
        if not fits(groups, names, order, row):
            return ("told", row[0])
    return None


def replayed(groups, names, rows):
    """The tree behind the rows, and its answers."""
    tree = Tree(groups)
    return tree, [tree.do(tick, names[asker], deed) for _, tick, asker, _, deed in rows]


def stands(groups, names, ahead, row):
    at, tick, asker, question, deed = row
    if asker not in names or (ahead and (at <= ahead[-1][0] or tick < ahead[-1][1])):
        return False
    if any(other[2] == asker and other[3] > question for other in ahead):
        return False
    mine = [other for other in ahead if other[3] == question]
    if not mine:
        return deed[0] != "put"
    if any(other[2] != asker for other in mine):
        return False
    if deed[0] in REPEATED:
        return all(repr(other[4]) == repr(deed) for other in mine)
    if len(mine) > 1 or mine[0][4][0] != "promise" or deed[0] != "put":
        return False
    answers = replayed(groups, names, ahead)[1]
    return answers[ahead.index(mine[0])] == ("done", deed[1])


def fits(groups, names, order, row):
    question, asker, deed, answer, at, age, tick = row
    mine = [other for other in order if other[3] == question]
    if mine:
        return fits_mine(groups, names, order, mine, row)
    inner = deed[1] if deed[0] == "glance" else deed
    here = [other for other in order if other[0] == at]
    if not here or asker not in names or inner[0] not in ("read", "list", "look"):
        return False
    _, when, leaser, _, leased = here[0]
    by_lease = leased[:2] == ("lease", inner[1]) and leaser == asker and tick < when + leased[2] and age == 0
    of_old = deed[0] == "glance" and age == tick - when and 0 <= age <= 20
    ahead = [other for other in order if other[0] <= at]
    tree, _ = replayed(groups, names, ahead)
    return (by_lease or of_old) and same(inner[0], answer, tree.do(when, names[asker], inner))


def fits_mine(groups, names, order, mine, row):
    _, asker, deed, answer, at, age, _ = row
    last = mine[-1]
    if asker != last[2] or at != last[0] or age != 0:
        return False
    known = replayed(groups, names, order)[1][order.index(last)]
    deeds = [other[4] for other in mine]
    if deed[0] == "write":
        _, path, place, data = deed
        wanted = ("promise", path, place, len(data))
        if deeds[0] != wanted or (len(deeds) == 1 and known[0] == "done"):
            return False
        if len(deeds) == 2 and deeds[1][2] != data:
            return False
    elif deeds[0] != (deed[1] if deed[0] == "glance" else deed):
        return False
    return same(deeds[-1][0], answer, known)


def same(word, answer, known):
    if repr(answer) == repr(known):
        return True
    if word in ("read", "old") and known[0] == "told" and known[1] and isinstance(known[1][0], int):
        return is_lost(answer)
    if word == "lease" and known[1][0][1][0] == "told":
        (look, inner), until = known[1]
        try:
            ((given_look, given), given_until) = answer[1]
        except (TypeError, ValueError, IndexError):
            return False
        alike = repr(("told", ((given_look, inner), given_until))) == repr(known)
        shaped = repr(answer) == repr(("told", ((given_look, given), given_until)))
        return alike and shaped and same("read", given, inner)
    return False


def is_lost(answer):
    if type(answer) is not tuple or len(answer) != 2 or answer[0] != "lost" or type(answer[1]) is not tuple:
        return False
    houses = answer[1]
    return bool(houses) and all(house in KEEPERS for house in houses) and list(houses) == sorted(set(houses))
