"""Promise 17: the judge."""

import inspect
import unittest

from farfiles import judging
from farfiles.errors import FarError, NoGroups, NoOrder, NoRows, NoUsers
from farfiles.judging import judge
from farfiles.trees import Tree
from plain_judge import verdict
from stories import changed, drawn_stories, left_out, roomy_story, told_story, twice
from worlds_watched import Draw

THINGS = (None, True, False, 7, -1, "", "a0", (), [], {}, ("a",), ["a"], b"a", (1, 2), ((),), {"a": 1})
NO_GROUPS = (None, True, 7, "", [], {}, (("staff", ["ann"]),), (("b", ()), ("a", ())), (("a", ()), ("a", ())))
NO_USERS = (None, True, 7, "", "ann", [], (), ["ann"], ("ann",) * 5, ("Ann",), ("ann", ""), ("ann", None))

DONE = ("done",)

# Rows of an order, each good by itself.
ROW = (1, 0, "a0", 0, ("file", ("f",)))
TOLD = (0, "a0", ("file", ("f",)), ("done",), 1, 0, 0)


def no_order_rows():
    """Things that are no row of an order."""
    yield from THINGS
    yield from (list(ROW), ROW[:4], ROW + (0,), ROW[::-1], (*ROW[:4], None))
    for at in (0, -1, True, "1", None, (1,), [1]):
        yield (at, *ROW[1:])
    for number in (-1, True, False, "0", None, (0,), []):
        yield (ROW[0], number, *ROW[2:])
        yield (*ROW[:3], number, ROW[4])
    for asker in (None, 0, True, ("a0",), ["a0"], b"a0"):
        yield (*ROW[:2], asker, *ROW[3:])
    for deed in (*THINGS, ["file", ("f",)], ("file", ["f"]), ("write", ("f",), None, (1,)), ("glance", ("read", ()))):
        yield (*ROW[:4], deed)


def no_told_rows():
    """Things that are no row of what was told."""
    yield from THINGS
    yield from (list(TOLD), TOLD[:6], TOLD + (0,), TOLD[::-1])
    for at in (0, 5, 6):
        for number in (-1, True, False, "0", None, (0,), []):
            yield (*TOLD[:at], number, *TOLD[at + 1:])
    for place in (0, -1, True, "1", None, (1,)):
        yield (*TOLD[:4], place, *TOLD[5:])
    for asker in (None, 0, True, ("a0",), ["a0"], b"a0"):
        yield (TOLD[0], asker, *TOLD[2:])
    for deed in (*THINGS, ("promise", ("f",), None, 1), ("put", 1, (1,)), ("sight", ()), ["file", ("f",)]):
        yield (*TOLD[:2], deed, *TOLD[3:])
    for answer in (*THINGS, ["done"], ("Done",), ("open",), (("done",),), (["done"], 1), (b"done",), (None,), ({},)):
        yield (*TOLD[:3], answer, *TOLD[4:])


class RefusalTest(unittest.TestCase):
    def refused(self, refusal, field, thing, *arguments, **named):
        with self.assertRaises(FarError) as caught:
            judge(*arguments, **named)
        self.assertIs(type(caught.exception), refusal)
        found = getattr(caught.exception, field)
        self.assertIs(type(found), type(thing))
        self.assertEqual(found, thing)

    def test_the_interface(self):
        self.assertEqual(str(inspect.signature(judge)), "(groups, users, order, told)")
        self.assertEqual(judge.__module__, judging.__name__)
        self.assertIsNone(judge(groups=(), users=("ann",), order=(ROW,), told=(TOLD,)))

    def test_groups_and_users(self):
        for groups in NO_GROUPS:
            self.refused(NoGroups, "groups", groups, groups, (), None, None)
        for users in NO_USERS:
            self.refused(NoUsers, "users", users, (), users, None, None)
        for users in (("ann",), ("ann", "ann", "bob", "root")):
            self.assertIsNone(judge((), users, (), ()))

    def test_the_order_of_refusals(self):
        self.refused(NoGroups, "groups", 1, 1, 2, 3, 4)
        self.refused(NoUsers, "users", 2, (), 2, 3, 4)
        self.refused(NoOrder, "place", None, (), ("ann",), 3, 4)
        self.refused(NoRows, "place", None, (), ("ann",), (), 4)
        self.refused(NoOrder, "place", 1, told=4, order=(ROW, 7, 8), users=("ann",), groups=())
        # Forms go ahead of all that is found.
        self.refused(NoRows, "place", 0, (), ("ann",), (ROW, ROW), (7,))

    def test_no_tuples(self):
        for thing in (None, True, 7, "", "x", [], [ROW], {}, b""):
            self.refused(NoOrder, "place", None, (), ("ann",), thing, ())
            self.refused(NoRows, "place", None, (), ("ann",), (), thing)

    def test_rows_of_an_order(self):
        second = (2, 0, "a0", 1, ("list", ()))
        for bad in no_order_rows():
            with self.subTest(bad=bad):
                self.refused(NoOrder, "place", 0, (), ("ann",), (bad,), ())
                self.refused(NoOrder, "place", 2, (), ("ann",), (ROW, second, bad, bad), ())

    def test_rows_of_what_was_told(self):
        for bad in no_told_rows():
            with self.subTest(bad=bad):
                self.refused(NoRows, "place", 0, (), ("ann",), (ROW,), (bad,))
                self.refused(NoRows, "place", 1, (), ("ann",), (ROW,), (TOLD, bad, bad))

    def test_questions_that_do_not_grow(self):
        four, five = (4, *TOLD[1:]), (5, *TOLD[1:])
        for rows, place in (((TOLD, TOLD), 1), ((five, four), 1), ((TOLD, five, four, 7), 2), ((four, five, five), 2)):
            self.refused(NoRows, "place", place, (), ("ann",), (ROW,), rows)
        # A row without the form that stands ahead goes first.
        self.refused(NoRows, "place", 0, (), ("ann",), (ROW,), (7, TOLD, TOLD))

    def test_good_forms(self):
        for row in ((1, 0, "nobody", 0, ("sight", ())), (10**9, 10**20, "", 10**20, ("put", 0, (-1,)))):
            self.assertEqual(judge((), ("ann",), (row,), ()), ("order", row[0]))
        for answer in (("told",), ("told", {}, []), ("no", "Anything", 1), ("lost",), ("done", True)):
            row = (*TOLD[:3], answer, *TOLD[4:])
            self.assertEqual(judge((), ("ann",), (ROW,), (row,)), ("told", 0))

    def test_what_is_handed_in_stays(self):
        story = told_story()
        ahead = repr(story)
        judge(*story)
        self.assertEqual(repr(story), ahead)


class OrderTest(unittest.TestCase):
    """Orders that are written by hand, of users ann and bob."""

    def check(self, wanted, *rows, ticks=None):
        """Rows (ASKER, QUESTION, DEED), which stand at 1, 2 and so on."""
        order = tuple([(at, 0, *row) for at, row in enumerate(rows, start=1)])
        found = judge((), ("ann", "bob"), order, ())
        self.assertEqual(found, None if wanted is None else ("order", wanted))
        self.assertEqual(verdict((), ("ann", "bob"), order, ()), found)

    def test_places_grow(self):
        rows = (ROW, (2, 0, "a0", 1, ("list", ())), (7, 0, "a1", 2, ("list", ())))
        self.assertIsNone(judge((), ("ann", "bob"), rows, ()))
        for at, place in ((1, 1), (2, 2), (2, 1)):
            spoilt = changed(rows, at, 0, place)
            self.assertEqual(judge((), ("ann", "bob"), spoilt, ()), ("order", place))

    def test_ticks_never_fall(self):
        rows = tuple([(at, tick, "a0", at, ("list", ())) for at, tick in ((1, 3), (2, 3), (5, 9), (6, 9))])
        self.assertIsNone(judge((), ("ann",), rows, ()))
        for at in (1, 2, 3):
            spoilt = changed(rows, at, 1, rows[at - 1][1] - 1)
            self.assertEqual(judge((), ("ann",), spoilt, ()), ("order", rows[at][0]))

    def test_askers(self):
        deed = ("list", ())
        for asker in ("a2", "ann", "", "a", "a-1", "a00", "A0", "h0", "p0"):
            self.check(2, ("a0", 0, deed), (asker, 1, deed))
        self.check(None, ("a0", 0, deed), ("a1", 1, deed))

    def test_an_askers_questions(self):
        deed = ("list", ())
        self.check(2, ("a0", 5, deed), ("a0", 4, ("look", ())))
        self.check(3, ("a0", 5, deed), ("a1", 4, deed), ("a0", 4, deed))
        self.check(3, ("a0", 1, deed), ("a0", 2, deed), ("a0", 1, deed))
        self.check(None, ("a0", 5, deed), ("a1", 4, deed), ("a1", 8, deed), ("a0", 6, deed))

    def test_one_deed(self):
        for deed in (("folder", ("d",)), ("file", ("f",)), ("link", ("a",), ("b",)), ("strike", ("a",)),
                     ("move", ("a",), ("b",)), ("cut", ("a",), 1), ("limit", (), 4), ("share", "ann", 3),
                     ("rights", (), "ann", "root", ("", "", "")), ("snap", (), "s"), ("back", ()), ("sight", ()),
                     ("promise", ("f",), None, 2)):
            self.check(None, ("a0", 0, deed), ("a1", 1, deed))
            self.check(2, ("a0", 0, deed), ("a0", 0, deed))
        self.check(1, ("a0", 0, ("put", 1, (1,))))
        self.check(1, ("a0", 0, ("put", 0, (1,))))

    def test_one_reading_or_lease_again_and_again(self):
        for deed in (("read", ("f",)), ("list", ()), ("look", ()), ("use", ()), ("held", "ann"), ("old", "s", ()),
                     ("lease", (), 5)):
            self.check(None, ("a0", 0, deed), ("a1", 1, deed), ("a0", 0, deed), ("a0", 0, deed))
            self.check(2, ("a0", 0, deed), ("a1", 0, deed))
            self.check(3, ("a0", 0, deed), ("a0", 0, deed), ("a0", 0, ("look", ("x",))))
        self.check(2, ("a0", 0, ("lease", (), 5)), ("a0", 0, ("lease", (), 6)))
        self.check(2, ("a0", 0, ("list", ())), ("a0", 0, ("look", ())))
        self.check(2, ("a0", 0, ("file", ("f",))), ("a0", 0, ("list", ())))
        self.check(2, ("a0", 0, ("list", ())), ("a0", 0, ("put", 1, (1,))))

    def test_a_promise_and_its_put(self):
        made = (("a0", 0, ("file", ("f",))), ("a0", 1, ("promise", ("f",), None, 2)))
        put = ("a0", 1, ("put", 1, (5, 6)))
        self.check(None, *made, put)
        self.check(None, *made, ("a1", 2, ("list", ())), put)
        self.check(4, *made, put, put)
        self.check(3, *made, ("a0", 1, ("promise", ("f",), None, 2)))
        self.check(3, *made, ("a1", 1, ("put", 1, (5, 6))))
        self.check(3, *made, ("a0", 2, ("put", 1, (5, 6))))
        for number in (0, 2, 10**20):
            self.check(3, *made, ("a0", 1, ("put", number, (5, 6))))
        # What the put tells then is another thing.
        self.check(None, *made, ("a0", 1, ("put", 1, (5, 6, 7))))
        # A promise that was refused was told no number.
        refused = (("a0", 0, ("promise", ("f",), None, 2)), ("a0", 0, ("put", 1, (5, 6))))
        self.check(2, *refused)
        second = (*made, ("a1", 2, ("file", ("g",))), ("a1", 3, ("promise", ("g",), None, 1)))
        self.check(None, *second, ("a1", 3, ("put", 2, (1,))), put)
        self.check(5, *second, ("a1", 3, ("put", 1, (1,))), put)

    def test_the_first_is_told(self):
        deed = ("list", ())
        self.check(2, ("a0", 0, deed), ("a9", 1, deed), ("a9", 2, deed), ("a0", 0, ("look", ())))


class ToldTest(unittest.TestCase):
    """Rows of what was told that are written by hand."""

    ORDER = (
        (1, 0, "a0", 0, ("file", ("f",))), (3, 0, "a0", 1, ("promise", ("f",), None, 2)),
        (4, 0, "a0", 1, ("put", 1, (1, 6))), (5, 2, "a1", 2, ("lease", ("f",), 9)),
        (7, 3, "a1", 3, ("read", ("f",))), (8, 4, "a0", 4, ("promise", ("f",), None, 1)),
        (9, 4, "a1", 5, ("promise", ("none",), None, 1)), (11, 5, "a1", 6, ("read", ("f",))),
        (12, 5, "a1", 6, ("read", ("f",))), (13, 5, "a0", 9, ("snap", (), "s")),
        (14, 5, "a0", 10, ("old", "s", ("f",))), (15, 5, "a0", 11, ("use", ())),
    )
    USERS = ("root", "bob")
    READ = ("told", (1, 6))
    LOOK = ("told", ("file", "root", "root", ("rw", "r", "r"), 2))

    def told(self, *row):
        found = judge((), self.USERS, self.ORDER, (row,))
        self.assertEqual(verdict((), self.USERS, self.ORDER, (row,)), found)
        return found

    def fits(self, *row):
        self.assertIsNone(self.told(*row), row)

    def fails(self, *row):
        self.assertEqual(self.told(*row), ("told", row[0]))

    def test_a_question_of_the_order(self):
        good = (0, "a0", ("file", ("f",)), DONE, 1, 0, 7)
        self.fits(*good)
        # When it was told is left to whoever told it.
        self.fits(*good[:6], 0)
        self.fits(*good[:6], 10**9)
        for at, value in ((1, "a1"), (1, ""), (2, ("file", ("g",))), (2, ("folder", ("f",))), (3, ("done", 1)),
                          (3, ("done", None)), (3, ("no", "stands")), (3, ("told",)), (4, 3), (4, 2), (5, 1)):
            self.fails(*good[:at], value, *good[at + 1:])

    def test_a_write(self):
        good = (1, "a0", ("write", ("f",), None, (1, 6)), DONE, 4, 0, 2)
        self.fits(*good)
        for at, value in ((2, ("write", ("f",), 0, (1, 6))), (2, ("write", ("f",), None, (1, 7))), (4, 3), (3, ("done", 1)),
                          (2, ("write", ("f",), None, (1, 6, 7))), (2, ("write", ("g",), None, (1, 6))), (2, ("file", ("f",)))):
            self.fails(*good[:at], value, *good[at + 1:])
        # Of the one whose promise was done the put isn't there.
        for answer in (DONE, ("done", 2), ("no", "late")):
            self.fails(4, "a0", ("write", ("f",), None, (1,)), answer, 8, 0, 4)
        self.fits(5, "a1", ("write", ("none",), None, (1,)), ("no", "nothere"), 9, 0, 4)
        self.fails(5, "a1", ("write", ("none",), None, (1,)), DONE, 9, 0, 4)

    def test_a_reading(self):
        self.fits(3, "a1", ("read", ("f",)), self.READ, 7, 0, 3)
        self.fits(3, "a1", ("glance", ("read", ("f",))), self.READ, 7, 0, 3)
        self.fails(3, "a1", ("glance", ("look", ("f",))), self.READ, 7, 0, 3)
        self.fails(3, "a1", ("glance", ("read", ("f",))), self.READ, 7, 1, 4)
        self.fits(6, "a1", ("read", ("f",)), self.READ, 12, 0, 5)
        self.fails(6, "a1", ("read", ("f",)), self.READ, 11, 0, 5)
        self.fits(10, "a0", ("old", "s", ("f",)), self.READ, 14, 0, 5)
        self.fits(11, "a0", ("use", ()), ("told", (3, None)), 15, 0, 5)

    def test_kinds(self):
        for cells in ((True, 6), [1, 6], (1, 6, 6), (1,), (), None, (1, "6"), "16", {1: 6}, (1, (6,))):
            self.fails(3, "a1", ("read", ("f",)), ("told", cells), 7, 0, 3)
        self.fails(3, "a1", ("read", ("f",)), ("told", (1, 6), None), 7, 0, 3)
        self.fails(3, "a1", ("read", ("f",)), ("told",), 7, 0, 3)
        self.fails(11, "a0", ("use", ()), ("told", (3, False)), 15, 0, 5)
        self.fails(11, "a0", ("use", ()), ("told", (3, 0)), 15, 0, 5)

    def test_a_lease(self):
        good = ("told", ((self.LOOK, self.READ), 11))
        self.fits(2, "a1", ("lease", ("f",), 9), good, 5, 0, 2)
        for bad in (("told", ((self.LOOK, self.READ), 12)), ("told", ((self.READ, self.LOOK), 11)), self.READ,
                    ("told", ([self.LOOK, self.READ], 11)), ("told", ((self.LOOK, self.READ), 11, 0)), ("told",),
                    ("told", (self.LOOK, self.READ)), ("told", None), ("told", 7), ("told", (7, 11)), ("told", ((), 11))):
            self.fails(2, "a1", ("lease", ("f",), 9), bad, 5, 0, 2)
        self.fails(2, "a1", ("lease", ("f",), 8), good, 5, 0, 2)

    def test_by_a_lease(self):
        for deed, answer in ((("read", ("f",)), self.READ), (("look", ("f",)), self.LOOK), (("list", ("f",)), ("no", "nofolder"))):
            for asked in (deed, ("glance", deed)):
                good = (7, "a1", asked, answer, 5, 0, 10)
                self.fits(*good)
                self.fits(*good[:6], 0)
                self.fails(*good[:6], 11)
                self.fails(*good[:5], 1, 10)
                self.fails(7, "a0", *good[2:])
                self.fails(7, "a7", *good[2:])
                self.fails(*good[:3], ("told", ()), *good[4:])
                for place in (1, 3, 4, 6, 7, 99):
                    self.fails(*good[:4], place, *good[5:])
        self.fails(7, "a1", ("read", ("g",)), ("no", "nothere"), 5, 0, 10)
        self.fails(7, "a1", ("use", ()), ("told", (3, None)), 5, 0, 10)
        self.fails(7, "a1", ("file", ("f",)), DONE, 5, 0, 10)
        self.fails(7, "a1", ("lease", ("f",), 9), ("told", ((self.LOOK, self.READ), 11)), 5, 0, 2)

    def test_of_old(self):
        for place, when, answer in ((1, 0, ("told", ())), (3, 0, ("told", ())), (4, 0, self.READ), (12, 5, self.READ)):
            for age in (0, 1, 19, 20):
                self.fits(8, "a0", ("glance", ("read", ("f",))), answer, place, age, when + age)
                # Only a glance is told so.
                self.fails(8, "a0", ("read", ("f",)), answer, place, age, when + age)
                self.fails(8, "a0", ("glance", ("read", ("f",))), answer, place, age + 1, when + age)
                self.fails(8, "a0", ("glance", ("read", ("f",))), answer, place, age, when + age + 1)
                self.fails(8, "a0", ("glance", ("read", ("f",))), ("no", "nofile"), place, age, when + age)
            self.fails(8, "a0", ("glance", ("read", ("f",))), answer, place, 21, when + 21)
        self.fails(8, "a0", ("glance", ("read", ("f",))), ("told", ()), 2, 0, 0)
        # By a lease of another, or of another path, but of old.
        self.fits(8, "a0", ("glance", ("read", ("f",))), self.READ, 5, 3, 5)
        self.fails(8, "a0", ("glance", ("read", ("f",))), self.READ, 5, 0, 5)
        self.fits(8, "a1", ("glance", ("list", ())), ("told", (("f", "file"),)), 5, 3, 5)
        self.fails(8, "a9", ("glance", ("list", ())), ("told", (("f", "file"),)), 5, 3, 5)
        # The AGE of a tick that lies ahead would be below 0.
        self.fails(8, "a1", ("glance", ("list", ())), ("told", (("f", "file"),)), 7, 0, 2)

    def test_lost_cells(self):
        lease = ("lease", ("f",), 9)
        for houses in (("p0",), ("p4",), ("p0", "p1", "p2", "p3", "p4"), ("p1", "p3")):
            lost = ("lost", houses)
            self.fits(3, "a1", ("read", ("f",)), lost, 7, 0, 3)
            self.fits(3, "a1", ("glance", ("read", ("f",))), lost, 7, 0, 3)
            self.fits(7, "a1", ("read", ("f",)), lost, 5, 0, 10)
            self.fits(8, "a0", ("glance", ("read", ("f",))), lost, 4, 5, 5)
            self.fits(10, "a0", ("old", "s", ("f",)), lost, 14, 0, 5)
            self.fits(2, "a1", lease, ("told", ((self.LOOK, lost), 11)), 5, 0, 2)
            self.fails(2, "a1", lease, ("told", ((lost, lost), 11)), 5, 0, 2)
            self.fails(2, "a1", lease, ("told", ((self.LOOK, lost), 12)), 5, 0, 2)
            self.fails(2, "a1", lease, ("told", ((self.LOOK, lost), True)), 5, 0, 2)
            self.fails(2, "a1", lease, ("told", ([self.LOOK, lost], 11)), 5, 0, 2)
            self.fails(2, "a1", lease, ("told", ((self.LOOK, lost),)), 5, 0, 2)
            self.fails(2, "a1", lease, ("no", ((self.LOOK, lost), 11)), 5, 0, 2)
            self.fails(2, "a1", lease, lost, 5, 0, 2)
            # These tell no cells.
            self.fails(11, "a0", ("use", ()), lost, 15, 0, 5)
            self.fails(7, "a1", ("look", ("f",)), lost, 5, 0, 10)
            self.fails(8, "a1", ("glance", ("list", ())), lost, 7, 0, 3)
            self.fails(0, "a0", ("file", ("f",)), lost, 1, 0, 0)
            # None are there yet.
            self.fails(8, "a0", ("glance", ("read", ("f",))), lost, 3, 5, 5)
        for houses in ((), None, ["p0"], "p0", ("p5",), ("h0",), ("p1", "p0"), ("p0", "p0"), (0,), (None,), (["p0"],), ("p0", 1)):
            self.fails(3, "a1", ("read", ("f",)), ("lost", houses), 7, 0, 3)
            self.fails(2, "a1", lease, ("told", ((self.LOOK, ("lost", houses)), 11)), 5, 0, 2)
        for answer in (("lost",), ("lost", ("p0",), None), ("no", ("p0",)), ("done", ("p0",))):
            self.fails(3, "a1", ("read", ("f",)), answer, 7, 0, 3)

    def test_lost_where_none_are_told(self):
        order = ((1, 0, "a0", 0, ("folder", ("d",))), (2, 0, "a0", 1, ("snap", (), "s")),
                 (3, 0, "a0", 2, ("old", "s", ())), (4, 0, "a0", 3, ("old", "s", ("d",))),
                 (5, 0, "a0", 4, ("lease", ("d",), 3)), (6, 0, "a0", 5, ("read", ("d",))))
        lost = ("lost", ("p0",))
        look = ("told", ("folder", "root", "root", ("rw", "r", "r"), 0))
        for row in ((2, "a0", ("old", "s", ()), lost, 3, 0, 0), (3, "a0", ("old", "s", ("d",)), lost, 4, 0, 0),
                    (4, "a0", ("lease", ("d",), 3), ("told", ((look, lost), 3)), 5, 0, 0),
                    (5, "a0", ("read", ("d",)), lost, 6, 0, 0)):
            self.assertEqual(judge((), ("root",), order, (row,)), ("told", row[0]))
            self.assertEqual(verdict((), ("root",), order, (row,)), ("told", row[0]))

    def test_the_first_is_told_the_orders_ahead(self):
        rows = ((0, "a0", ("file", ("f",)), DONE, 1, 0, 7), (3, "a1", ("read", ("f",)), ("told", ()), 7, 0, 3),
                (7, "a1", ("read", ("f",)), self.READ, 5, 0, 99), (20, "a1", ("list", ()), ("no", "nofile"), 5, 0, 1))
        self.assertEqual(judge((), self.USERS, self.ORDER, rows), ("told", 3))
        self.assertEqual(judge((), self.USERS, self.ORDER, rows[:1] + rows[2:]), ("told", 7))
        self.assertEqual(judge((), self.USERS, self.ORDER, rows[:1] + rows[3:]), ("told", 20))
        spoilt = changed(self.ORDER, 11, 1, 4)
        self.assertEqual(judge((), self.USERS, spoilt, rows), ("order", 15))


class StoryTest(unittest.TestCase):
    """A World's own order and rows, and each of them spoilt in one place."""

    @classmethod
    def setUpClass(cls):
        cls.story = told_story()

    def judged(self, order=None, told=None):
        groups, users, known, rows = self.story
        found = judge(groups, users, known if order is None else order, rows if told is None else told)
        wanted = verdict(groups, users, known if order is None else order, rows if told is None else told)
        self.assertEqual(found, wanted)
        return found

    def test_it_fits(self):
        self.assertIsNone(self.judged())
        self.assertIsNone(self.judged(told=()))
        self.assertIsNone(self.judged(order=(), told=()))

    def test_no_order(self):
        self.assertEqual(self.judged(order=()), ("told", 0))

    def test_rows_left_out(self):
        order, told = self.story[2:]
        for at in range(len(told)):
            self.assertIsNone(self.judged(told=left_out(told, at)))
        for at in range(len(order)):
            self.assertIsNotNone(self.judged(order=left_out(order, at)), at)

    def test_rows_twice(self):
        order, told = self.story[2:]
        for at in range(len(order)):
            self.assertEqual(self.judged(order=twice(order, at)), ("order", order[at][0]))
        groups, users = self.story[:2]
        for at in range(len(told)):
            with self.assertRaises(NoRows) as caught:
                judge(groups, users, order, twice(told, at))
            self.assertEqual(caught.exception.place, at + 1)

    def test_each_answer_put_otherwise(self):
        told = self.story[3]
        for at, row in enumerate(told):
            for answer in (("no", "nofile"), ("told", ()), ("told", (7, 8)), ("told", 0), ("lost", ()), ("done", 0)):
                self.assertEqual(self.judged(told=changed(told, at, 3, answer)), ("told", row[0]))

    def test_each_place_put_otherwise(self):
        told = self.story[3]
        for at, row in enumerate(told):
            for place in (row[4] + 1, row[4] - 1, 99):
                if place > 0 and row[0] not in (9, 10, 14):
                    self.assertEqual(self.judged(told=changed(told, at, 4, place)), ("told", row[0]))

    def test_each_age_put_otherwise(self):
        told = self.story[3]
        for at, row in enumerate(told):
            for age in (row[5] + 1, row[5] - 1, 21):
                # The glance told by the lease might have been told by it at once.
                if age >= 0:
                    self.assertEqual(self.judged(told=changed(told, at, 5, age)), ("told", row[0]))

    def test_each_deed_put_otherwise(self):
        told = self.story[3]
        for at, row in enumerate(told):
            for deed in (("list", ("no", "no")), ("back", ()), ("write", ("d",), None, (1,)), ("glance", ("look", ("q",)))):
                self.assertEqual(self.judged(told=changed(told, at, 2, deed)), ("told", row[0]))

    def test_each_tick_put_otherwise(self):
        order, told = self.story[2:]
        for at, row in enumerate(told):
            found = self.judged(told=changed(told, at, 6, row[6] + 20))
            self.assertEqual(found, ("told", row[0]) if row[0] in (6, 7, 8, 9, 14) else None)
        for at in range(1, len(order)):
            if order[at - 1][1] > 0:
                self.assertEqual(self.judged(order=changed(order, at, 1, order[at - 1][1] - 1)), ("order", order[at][0]))
            self.assertEqual(self.judged(order=changed(order, at - 1, 1, 50)), ("order", order[at][0]))


class DrawnTest(unittest.TestCase):
    """Drawn Worlds, spoilt by a draw, judged by the plain judge as well."""

    VALUES = (0, 1, 2, 3, 5, 9, 20, 21, 30, "a0", "a1", "a3", True, None, (), ("done",), ("no", "nothere"), ("told", ()),
              ("told", (1, 2, 3)), ("lost", ("p0",)), ("lost", ("p1", "p2")), ("read", ("b",)), ("list", ()), ("look", ("b",)),
              ("glance", ("read", ("b",))), ("file", ("b",)), ("lease", ("b",), 30), ("put", 1, (1, 2, 3)))

    def outcome(self, judging_one, story):
        try:
            return judging_one(*story)
        except (NoOrder, NoRows) as refusal:
            return (type(refusal).__name__, refusal.place)

    def spoilt(self, draw, rows, others):
        """The rows, with something put otherwise."""
        at = draw.below(len(rows))
        row = rows[at]
        roll = draw.below(10)
        if roll == 0:
            return left_out(rows, at)
        if roll == 1:
            return twice(rows, at)
        if roll == 2:
            other = draw.below(len(rows))
            return changed(changed(rows, at, 0, rows[other][0]), other, 0, row[0])
        field = draw.below(len(row))
        if roll < 5 and isinstance(row[field], int):
            return changed(rows, at, field, row[field] + draw.one((-1, 1, 2, -2, 20)))
        if roll < 8:
            return changed(rows, at, field, draw.one(others)[field])
        return changed(rows, at, field, draw.one(self.VALUES))

    def test_drawn(self):
        draw = Draw(17)
        seen = {}
        stories = drawn_stories(self, 80)
        for groups, users, order, told in stories:
            self.assertIsNone(judge(groups, users, order, told))
            for _ in range(25):
                spoilt = (groups, users, order, told)
                for _ in range(1 + draw.below(2)):
                    _, _, rows, answers = spoilt
                    if draw.chance(50):
                        spoilt = (groups, users, self.spoilt(draw, rows, order), answers)
                    else:
                        spoilt = (groups, users, rows, self.spoilt(draw, answers, told))
                found = self.outcome(judge, spoilt)
                if found is None or found[0] in ("order", "told"):
                    self.assertEqual(found, verdict(*spoilt))
                seen[found and found[0]] = seen.get(found and found[0], 0) + 1
        for word in (None, "order", "told", "NoOrder", "NoRows"):
            self.assertGreater(seen.get(word, 0), 20, seen)


class AskedForTest(unittest.TestCase):
    """What isn't asked for isn't worked out: the answers that are hang on all else as ever."""

    def check(self, *story):
        found = judge(*story)
        self.assertEqual(found, verdict(*story))
        return found

    def test_the_numbers_of_promises_in_a_tree_without_room(self):
        """Each NUMBER hangs on all limits, shares, rights and ticks ahead, though nothing is told."""
        seen = {True: 0, False: 0}
        for seed in range(12):
            (groups, users, order), _ = roomy_story(seed, 50)
            self.assertIsNone(self.check(groups, users, order, ()))
            for at, (place, *_, deed) in enumerate(order):
                # With any deed left out the puts behind it may have other numbers.
                found = self.check(groups, users, left_out(order, at), ())
                seen[found is None] += 1
                if deed[0] == "put":
                    for number in (deed[1] + 1, deed[1] - 1, 0):
                        spoilt = changed(order, at, 4, ("put", number, deed[2]))
                        self.assertEqual(self.check(groups, users, spoilt, ()), ("order", place))
        self.assertGreater(min(seen.values()), 50, seen)

    def answered(self, groups, users, order):
        """Rows of what was told of all that is in the order."""
        tree, rows = Tree(groups), {}
        for at, tick, asker, question, deed in order:
            answer = tree.do(tick, users[int(asker[1:])], deed)
            if deed[0] == "put":
                _, path, place, _ = rows[question][2]
                deed = ("write", path, place, deed[2])
            rows[question] = (question, asker, deed, answer, at, 0, tick)
        return [row for row in rows.values() if row[2][0] not in ("promise", "sight")]

    def test_each_told_by_itself(self):
        """An answer is the same, whichever others are told beside it."""
        for seed in range(4):
            (groups, users, order), _ = roomy_story(seed, 60)
            rows = self.answered(groups, users, order)
            self.assertIsNone(self.check(groups, users, order, tuple(sorted(rows))))
            for row in rows:
                self.assertIsNone(self.check(groups, users, order, (row,)), row)
                spoilt = (*row[:3], ("no", "ring") if row[3] != ("no", "ring") else DONE, *row[4:])
                self.assertEqual(self.check(groups, users, order, (spoilt,)), ("told", row[0]))

    def test_a_snapshot_that_nobody_was_told_of(self):
        order = ((1, 0, "a0", 0, ("file", ("f",))), (2, 0, "a0", 1, ("snap", (), "s")), (3, 0, "a0", 2, ("file", ("g",))),
                 (4, 0, "a0", 3, ("snap", (), "s")), (5, 0, "a0", 4, ("old", "s", ())), (6, 0, "a0", 5, ("old", "t", ())))
        for row in ((4, "a0", ("old", "s", ()), ("told", (("f", "file"),)), 5, 0, 0), (3, "a0", ("snap", (), "s"), ("no", "stands"), 4, 0, 0),
                    (5, "a0", ("old", "t", ()), ("no", "nosnap"), 6, 0, 0)):
            self.assertIsNone(self.check((), ("root",), order, (row,)))
            self.assertEqual(self.check((), ("root",), order, ((*row[:3], ("no", "nothere"), *row[4:]),)), ("told", row[0]))
        self.assertIsNone(self.check((), ("root",), order, ()))

    def test_what_is_told_ahead_of_the_end(self):
        """What stands behind the last one told is looked through, too."""
        order = ((1, 0, "a0", 0, ("file", ("f",))), (2, 0, "a0", 1, ("read", ("f",))), (3, 0, "a0", 2, ("promise", ("f",), None, 1)),
                 (4, 0, "a0", 2, ("put", 1, (5,))), (5, 0, "a0", 3, ("list", ())))
        told = ((1, "a0", ("read", ("f",)), ("told", ()), 2, 0, 0),)
        self.assertIsNone(self.check((), ("ann",), order, told))
        self.assertEqual(self.check((), ("ann",), changed(order, 3, 4, ("put", 2, (5,))), told), ("order", 4))
        self.assertEqual(self.check((), ("ann",), changed(order, 4, 3, 1), told), ("order", 5))
        self.assertEqual(self.check((), ("ann",), order, (told[0], (9, *told[0][1:]))), ("told", 9))


if __name__ == "__main__":
    unittest.main()
