"""Orders and rows of what was told: of Worlds, and written by hand."""

from farfiles.worlds import World
from plain_model import Model
from test_trees_drawn import AHEAD, GROUPS as DRAWN_GROUPS, USERS as DRAWN_USERS, drawn
from worlds_watched import Draw, drawn_world

# The deeds that may find no room.
ROOMY = ("link", "move", "rights", "limit", "share", "promise")

GROUPS = (("staff", ("ann", "bob")),)
USERS = ("ann", "bob")


def carry_all(world):
    while world.letters():
        world.carry(world.letters()[0][0])


def ask(world, asker, *deed):
    question = world.ask(asker, deed)
    for _ in range(40):
        carry_all(world)
        if world.answer(question) is not None:
            return question
        world.tick()
    raise AssertionError(deed)


def told_story():
    """A World that was told a bit of all: its (GROUPS, USERS, ORDER, TOLD)."""
    world = World(USERS, groups=GROUPS)
    ask(world, "a0", "folder", ("d",))
    ask(world, "a0", "file", ("d", "f"))
    ask(world, "a0", "write", ("d", "f"), None, (7, 8, 9))
    ask(world, "a1", "write", ("d", "f"), None, (7,))
    ask(world, "a1", "read", ("d", "f"))
    world.tick(2)
    ask(world, "a1", "lease", ("d", "f"), 10)
    ask(world, "a1", "look", ("d", "f"))
    world.tick(3)
    ask(world, "a1", "read", ("d", "f"))
    ask(world, "a1", "list", ("d", "f"))
    ask(world, "a1", "glance", ("read", ("d", "f")))
    ask(world, "a1", "glance", ("list", ("d",)))
    ask(world, "a1", "back", ("d", "f"))
    ask(world, "a0", "cut", ("d", "f"), 2)
    world.tick(4)
    ask(world, "a0", "list", ("d",))
    ask(world, "a1", "glance", ("look", ("d", "f")))
    ask(world, "a0", "snap", (), "s")
    ask(world, "a0", "old", "s", ("d", "f"))
    ask(world, "a0", "use", ("d",))
    ask(world, "a1", "held", "bob")
    ask(world, "a1", "held", "ann")
    return (GROUPS, USERS, world.order(), world.told())


def drawn_stories(case, seeds, steps=120):
    """The same of Worlds to which long drawn rows of all that can be were done."""
    found = []
    kinds = ("all", "leases", "cells", "heads", "unheard")
    for seed in range(seeds):
        watched = drawn_world(case, seed, steps, kinds[seed % len(kinds)])
        world = watched.world
        found.append((watched.groups, watched.users, world.order(), world.told()))
    return found


def changed(rows, at, field, value):
    """The rows with one field of one row put otherwise."""
    row = rows[at]
    return rows[:at] + (row[:field] + (value,) + row[field + 1:],) + rows[at + 1:]


def left_out(rows, at):
    return rows[:at] + rows[at + 1:]


def twice(rows, at):
    return rows[:at + 1] + rows[at:]


def roomy_story(seed, steps):
    """(GROUPS, USERS, ORDER), drawn deeds of which many find no room, and for each AT its strains."""
    draw = Draw(seed)
    model = Model(DRAWN_GROUPS)
    order, strains = [], {}
    tick = question = 0

    def settle(asker, deed):
        order.append((len(order) * 2 + 1, tick, f"a{asker}", question, deed))
        user = DRAWN_USERS[asker]
        would = model.strained(tick, user, deed) if is_refused(model, tick, user, deed) else []
        answer = model.do(tick, user, deed)
        if answer == ("no", "noroom"):
            strains[order[-1][0]] = would
        return answer

    for deed in AHEAD:
        if deed[0] != "put":
            question += 1
            answer = settle(0, deed)
            if deed[0] == "promise":
                settle(0, ("put", answer[1], tuple(range(deed[3]))))
    for _ in range(steps):
        tick += draw.below(draw.one((1, 1, 2, 15)))
        deed = drawn(draw, model)
        while deed[0] not in ROOMY and draw.chance(80):
            deed = drawn(draw, model)
        question += 1
        asker = draw.one((0, 1, 2, 3, 3, 3))
        if deed[0] != "put":
            answer = settle(asker, deed)
            if deed[0] == "promise" and answer[0] == "done" and draw.chance(70):
                settle(asker, ("put", answer[1], tuple(range(deed[3]))))
    return (DRAWN_GROUPS, DRAWN_USERS, tuple(order)), strains


def is_refused(model, tick, user, deed):
    """Whether the deed finds no room; the model stays as it is."""
    ahead = dict(model.__dict__)
    answer = model.do(tick, user, deed)
    model.__dict__ = ahead
    return answer == ("no", "noroom")
