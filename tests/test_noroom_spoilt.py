"""Promises 18 and 19: noroom of orders in which 17 finds something, a place twice above all."""

import unittest

from farfiles.checker import holds
from farfiles.errors import NoPlace
from farfiles.judging import judge
from farfiles.papers import paper_newest, paper_room
from plain_judge import verdict
from plain_model import Model
from stories import changed, is_refused, left_out, roomy_story, twice
from test_checker import FULL, ROOMY, THINGS
from worlds_watched import Draw

# Deeds that never seek room; all of them may stand in an order of the third user here.
QUIET = (("look", ()), ("list", ()), ("read", ("f",)), ("use", ()), ("held", "bob"), ("old", "s", ()), ("lease", (), 3),
         ("back", ()), ("sight", ()), ("snap", (), "s"), ("folder", ("q",)), ("cut", ("q",), 0), ("strike", ("q",)))

USERS = ("ann", "root", "bob")

PAPERS = sorted({paper for papers in FULL.values() for paper in papers}, key=repr) + [((), 0, 1), ("ann", 0, 1)]


def strains_by_model(groups, users, order, place):
    """Whose limits the deed at this place would break, as the plain judge and the plain tree tell."""
    if verdict(groups, users, order, ()) is not None:
        return []
    model = Model(groups)
    for at, tick, asker, _, deed in order:
        user = users[int(asker[1:])]
        if at == place:
            return model.strained(tick, user, deed) if is_refused(model, tick, user, deed) else []
        model.do(tick, user, deed)
    return []


class SpoiltCase(unittest.TestCase):
    def check(self, groups, users, order, place, wanted, papers=PAPERS):
        """These are the papers by which the deed at this place is taken; how many."""
        claim = ("noroom", groups, users, order, place)
        found = paper_room(groups, users, order, place)
        if wanted:
            self.assertEqual(found[0], claim)
            self.assertIn(found[1], wanted)
        else:
            self.assertIsNone(found)
        for paper in (*wanted, *papers):
            self.assertIs(holds(claim, paper), paper in wanted, (place, paper))
        for thing in THINGS:
            self.assertIs(holds(claim, thing), False)
        return len(wanted)


class PlaceTwiceTest(SpoiltCase):
    def around(self, at, row, *, behind):
        """The order with one more row ahead of or behind the one with this index."""
        cut = at + 1 if behind else at
        return ROOMY[:cut] + (row,) + ROOMY[cut:]

    def test_a_quiet_deed_at_the_same_place(self):
        for at, (place, tick, *_) in enumerate(ROOMY):
            for deed in QUIET:
                for behind in (False, True):
                    order = self.around(at, (place, tick, "a2", 50, deed), behind=behind)
                    self.assertEqual(judge((), USERS, order, ()), ("order", place))
                    self.check((), USERS, order, place, ())

    def test_a_quiet_deed_beside_it(self):
        """With a place of its own it changes nothing of what is answered with noroom."""
        for at in range(len(ROOMY)):
            for deed in QUIET[:10]:
                order = self.around(at, (0, ROOMY[at][1], "a2", 50, deed), behind=False)
                order = tuple([(place, *row[1:]) for place, row in enumerate(order, start=1)])
                self.assertIsNone(judge((), USERS, order, ()))
                self.check((), USERS, order, at + 1, ())
                self.check((), USERS, order, at + 2, FULL.get(ROOMY[at][0], ()))

    def test_quiet_deeds_alone_at_one_place(self):
        for first in QUIET:
            for second in QUIET:
                order = ((1, 0, "a0", 0, first), (1, 0, "a0", 1, second))
                self.assertEqual(judge((), USERS, order, ()), ("order", 1))
                self.check((), USERS, order, 1, ())

    def test_any_two_rows_at_one_place(self):
        """With rows of other places between them, and each of the two told the other's place."""
        for at in range(len(ROOMY)):
            for other in range(at + 1, len(ROOMY)):
                for source, target in ((at, other), (other, at)):
                    place = ROOMY[source][0]
                    order = changed(ROOMY, target, 0, place)
                    self.assertIsNotNone(judge((), USERS, order, ()))
                    self.check((), USERS, order, place, (), FULL.get(place, ()))
                    with self.assertRaises(NoPlace):
                        paper_room((), USERS, order, ROOMY[target][0])

    def test_the_newest_of_such_an_order(self):
        sight = (("no", "nothere"),) * 2
        order = ((1, 0, "a0", 0, ("look", ())), (1, 0, "a0", 1, ("limit", (), 0)))
        self.assertIsNone(paper_newest((), USERS, order, user="ann", path=("x",), place=1))
        self.assertIs(holds(("newest", (), USERS, order, "ann", ("x",), sight, 1), None), False)
        self.assertIs(holds(("newest", (), USERS, order[:1], "ann", ("x",), sight, 1), None), True)


class DrawnTest(SpoiltCase):
    """Drawn deeds that find no room, the order spoilt or not, by the plain judge and tree as well."""

    def spoilt(self, draw, order):
        at, other = draw.below(len(order)), draw.below(len(order))
        roll = draw.below(8)
        if roll == 0:
            return left_out(order, at)
        if roll == 1:
            return twice(order, at)
        if roll == 2:
            return changed(order, at, 0, order[other][0])
        if roll == 3:
            place, tick, *_ = order[at]
            quiet = (max(1, place - draw.below(2)), tick, "a0", order[at][3], draw.one(QUIET))
            return order[:at] + (quiet,) + order[at:]
        if roll == 4:
            return changed(order, at, draw.one((0, 1, 3)), draw.below(30) + 1)
        if roll == 5:
            return changed(order, at, 2, draw.one(("a0", "a1", "a2", "a3", "a4")))
        return changed(order, at, 4, draw.one(QUIET)) if roll == 6 else order

    def test_drawn(self):
        draw = Draw(23)
        taken, found = 0, {True: 0, False: 0}
        for seed in range(20, 60):
            (groups, users, whole), _ = roomy_story(seed, 30)
            for _ in range(4):
                order = self.spoilt(draw, whole)
                wanted = verdict(groups, users, order, ())
                self.assertEqual(judge(groups, users, order, ()), wanted)
                found[wanted is None] += 1
                for place in {draw.one(order)[0] for _ in range(6)}:
                    strains = strains_by_model(groups, users, order, place)
                    taken += self.check(groups, users, order, place, strains)
        self.assertGreater(taken, 20)
        self.assertGreater(min(found.values()), 40, found)


if __name__ == "__main__":
    unittest.main()
