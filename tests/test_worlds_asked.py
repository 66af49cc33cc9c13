"""Promises 9 to 11: a World made, asked and told; its letters, ticks and houses."""

import inspect
import unittest

from farfiles.errors import Busy, Down, FarError, HouseError, IsGone, NoAsker, NoDeed, NoGroups
from farfiles.errors import NoHouse, NoLetter, NoMany, NoQuestion, NoUsers, Up
from farfiles.trees import Tree
from farfiles.worlds import World

DONE = ("done",)
THINGS = (None, True, False, 7, -1, "", "x", (), [], {}, ("a0",), ["a0"], b"a0", (1, 2))
GROUPS = (("staff", ("ann", "bob")),)

INTERFACE = {
    "__init__": "(self, users, *, groups=(), pieces=3, copies=2)",
    "ask": "(self, asker, deed)", "answer": "(self, question)", "letters": "(self)",
    "carry": "(self, number)", "lose": "(self, number)", "double": "(self, number)",
    "tick": "(self, many=1)", "now": "(self)", "fall": "(self, house)", "rise": "(self, house)",
    "gone": "(self, house)", "bend": "(self, house)", "empty": "(self, house)",
    "is_up": "(self, house)", "alone": "(self)", "calm": "(self)", "order": "(self)", "told": "(self)",
}


class WorldCase(unittest.TestCase):
    def refused(self, refusal, field, thing, call, *arguments, **named):
        with self.assertRaises((FarError, HouseError)) as caught:
            call(*arguments, **named)
        self.assertIs(type(caught.exception), refusal)
        self.assertIs(getattr(caught.exception, field), thing)

    def asked(self, world, asker, *deed):
        """The answer, behind a calm."""
        question = world.ask(asker, deed)
        self.assertIs(world.calm(), True)
        return world.answer(question)[0]


class MakeTest(WorldCase):
    def test_the_interface(self):
        for name, text in INTERFACE.items():
            self.assertEqual(str(inspect.signature(vars(World)[name])), text, name)

    def test_users(self):
        for users in (("ann",), ("ann", "ann"), ("root", "ann", "bob", "eve")):
            World(users)
        bad = (*THINGS[:11], ("ann",) * 5, ["ann"], ("Ann",), ("ann", ""), ("ann", None), "ann", ("ann", ("b",)))
        for users in bad:
            if users != ("a0",):
                self.refused(NoUsers, "users", users, World, users)

    def test_groups(self):
        World(("ann",), groups=GROUPS)
        for groups in (None, 7, [], {}, "", (("staff", ["ann"]),), (("b", ()), ("a", ()))):
            self.refused(NoGroups, "groups", groups, World, ("ann",), groups=groups)

    def test_pieces_and_copies(self):
        for pieces in range(1, 6):
            for copies in range(1, min(3, pieces) + 1):
                world = World(("ann",), pieces=pieces, copies=copies)
                self.assertIs(world.is_up(f"p{pieces - 1}"), True)
                none = f"p{pieces}"
                self.refused(NoHouse, "house", none, world.is_up, none)
        for many in (0, 6, -1, 10**20, None, True, False, "3", (), [], {}):
            self.refused(NoMany, "many", many, World, ("ann",), pieces=many)
            self.refused(NoMany, "many", many, World, ("ann",), copies=many)
        self.refused(NoMany, "many", 4, World, ("ann",), pieces=5, copies=4)
        self.refused(NoMany, "many", 2, World, ("ann",), pieces=1)
        self.refused(NoMany, "many", 3, World, ("ann",), pieces=2, copies=3)

    def test_the_order_of_refusals(self):
        self.refused(NoUsers, "users", (), World, (), groups=7, pieces=0, copies=9)
        self.refused(NoGroups, "groups", 7, World, ("ann",), groups=7, pieces=0, copies=9)
        self.refused(NoMany, "many", 0, World, ("ann",), groups=(), pieces=0, copies=9)

    def test_at_first(self):
        world = World(("ann", "bob"))
        for house in ("a0", "a1", "h0", "h1", "p0", "p1", "p2"):
            self.assertIs(world.is_up(house), True)
        self.assertEqual((world.now(), world.letters(), world.order(), world.told()), (0, (), (), ()))
        self.assertIs(world.calm(), True)
        self.assertEqual(world.now(), 0)


class AskTest(WorldCase):
    def test_the_order_of_refusals(self):
        world = World(("ann", "bob"))
        for asker in (*THINGS, "a2", "h0", "p0", "ann"):
            self.refused(NoAsker, "asker", asker, world.ask, asker, None)
        world.fall("a0")
        world.ask("a1", ("file", ("x",)))
        for deed in (None, 7, ("file",)):
            for asker in ("a0", "a1"):
                self.refused(NoDeed, "deed", deed, world.ask, asker, deed)
        self.refused(Down, "house", "a0", world.ask, "a0", ("file", ("y",)))
        self.refused(Busy, "asker", "a1", world.ask, "a1", ("file", ("y",)))
        world.fall("a1")
        self.refused(Down, "house", "a1", world.ask, "a1", ("file", ("y",)))
        world.rise("a1")
        self.assertEqual(world.ask("a1", ("file", ("y",))), 1)

    def test_deeds(self):
        good = (
            ("folder", ("a",)), ("file", ("a",)), ("link", ("a",), ("b",)), ("move", ("a",), ("b",)),
            ("strike", ("a",)), ("cut", ("a",), 0), ("rights", (), "ann", "root", ("", "", "")),
            ("read", ()), ("list", ()), ("look", ()), ("limit", (), None), ("share", "ann", 3),
            ("use", ()), ("held", "ann"), ("snap", (), "s"), ("old", "s", ()), ("lease", (), 1),
            ("lease", (), 30), ("back", ()), ("glance", ("read", ())), ("glance", ("list", ("a",))),
            ("glance", ("look", ())), ("write", ("a",), None, (1,)), ("write", ("a",), 0, (-1,) * 24),
        )
        for at, deed in enumerate(good):
            world = World(("ann",))
            self.assertEqual(world.ask("a0", deed), 0)
            self.assertIs(world.calm(), True, deed)
            self.assertIsNotNone(world.answer(0), deed)

    def test_no_deed(self):
        world = World(("ann",))
        bad = (
            *THINGS, ("promise", ("a",), None, 1), ("put", 1, (1,)), ("sight", ("a",)), ("glance", ("use", ())),
            ("glance", ("glance", ("read", ()))), ("glance", ("sight", ())), ("glance", ("old", "s", ())),
            ("glance", ("read", ["a"])), ("glance", ["read", ()]), ("glance", ("read",)), ("glance",),
            ("glance", "read", ()), ("glance", ("read", (), 1)), ("glance", None), ("write", ("a",), None, ()),
            ("write", ("a",), None, (1,) * 25), ("write", ("a",), -1, (1,)), ("write", ("a",), True, (1,)),
            ("write", ("a",), None, [1]), ("write", ("a",), None, (True,)), ("write", ["a"], None, (1,)),
            ("write", ("a",), (1,)), ("lease", (), 0), ("lease", (), 31), ("lease", (), True), ("back",),
            ("look", ("A",)), ("folder", ("a",) * 7), (7, ()), (["read"], ()),
        )
        for deed in bad:
            self.refused(NoDeed, "deed", deed, world.ask, "a0", deed)
        self.assertEqual((world.letters(), world.order()), ((), ()))
        self.assertEqual(world.ask("a0", ("read", ())), 0)

    def test_questions_are_one_more_each_time(self):
        world = World(("ann", "bob"))
        self.assertEqual(world.ask(deed=("file", ("x",)), asker="a1"), 0)
        self.assertEqual(world.ask("a0", ("file", ("y",))), 1)
        world.calm()
        self.assertEqual(world.ask("a1", ("read", ("x",))), 2)

    def test_as_its_user(self):
        world = World(("ann", "ann", "bob", "root"), groups=GROUPS)
        self.assertEqual(self.asked(world, "a0", "folder", ("d",)), DONE)
        self.assertEqual(self.asked(world, "a1", "file", ("d", "x")), DONE)
        self.assertEqual(self.asked(world, "a2", "file", ("d", "y")), ("no", "noright"))
        self.assertEqual(self.asked(world, "a2", "share", "bob", 3), ("no", "noright"))
        self.assertEqual(self.asked(world, "a3", "share", "bob", 3), DONE)
        self.assertEqual(self.asked(world, "a0", "rights", ("d",), "ann", "staff", ("rw", "rw", "")), DONE)
        self.assertEqual(self.asked(world, "a2", "file", ("d", "y")), DONE)
        self.assertEqual([row[2] for row in world.order()], ["a0", "a1", "a2", "a2", "a3", "a0", "a2"])


class AnswerTest(WorldCase):
    def test_no_question(self):
        world = World(("ann",))
        for question in (*THINGS, 0, 1):
            self.refused(NoQuestion, "question", question, world.answer, question)
        world.ask("a0", ("file", ("x",)))
        self.assertIsNone(world.answer(0))
        for question in (1, -1, True, False, "0", None):
            self.refused(NoQuestion, "question", question, world.answer, question)

    def test_answers_order_and_told(self):
        world = World(("ann", "bob"))
        world.ask("a0", ("file", ("x",)))
        world.calm()
        world.tick(3)
        world.ask("a1", ("write", ("x",), None, (5,)))
        world.calm()
        world.ask("a0", ("write", ("x",), 0, (6, 7)))
        world.calm()
        world.ask("a1", ("glance", ("read", ("x",))))
        world.calm()
        order, told = world.order(), world.told()
        deeds = (("file", ("x",)), ("promise", ("x",), None, 1), ("promise", ("x",), 0, 2),
                 ("put", 1, (6, 7)), ("read", ("x",)))
        self.assertEqual(tuple([row[4] for row in order]), deeds)
        self.assertEqual([row[1:4] for row in order], [(0, "a0", 0), (3, "a1", 1), (3, "a0", 2), (3, "a0", 2), (3, "a1", 3)])
        places = [row[0] for row in order]
        self.assertEqual(places, sorted(set(places)))
        self.assertGreaterEqual(places[0], 1)
        self.assertEqual(told, (
            (0, "a0", ("file", ("x",)), DONE, places[0], 0, 0),
            (1, "a1", ("write", ("x",), None, (5,)), ("no", "noright"), places[1], 0, 3),
            (2, "a0", ("write", ("x",), 0, (6, 7)), DONE, places[3], 0, 3),
            (3, "a1", ("glance", ("read", ("x",))), ("told", (6, 7)), places[4], 0, 3),
        ))
        for row in told:
            self.assertEqual(world.answer(row[0]), row[3:6])
        tree = Tree()
        users = {"a0": "ann", "a1": "bob"}
        answers = [tree.do(tick, users[asker], deed) for _, tick, asker, _, deed in order]
        self.assertEqual(answers, [DONE, ("no", "noright"), ("done", 1), DONE, ("told", (6, 7))])

    def test_an_asker_that_fell_tells_none(self):
        world = World(("ann", "bob"))
        world.ask("a0", ("file", ("x",)))
        world.fall("a0")
        world.calm()
        self.assertIsNone(world.answer(0))
        world.rise("a0")
        world.tick(5)
        self.assertIs(world.calm(), True)
        self.assertIsNone(world.answer(0))
        self.assertEqual(world.told(), ())
        self.assertEqual(self.asked(world, "a1", "file", ("y",)), DONE)

    def test_what_was_told_stays_when_it_falls(self):
        world = World(("ann",))
        self.asked(world, "a0", "file", ("x",))
        told = world.told()
        world.fall("a0")
        self.assertEqual((world.told(), world.answer(0)[0]), (told, DONE))


class LettersTest(WorldCase):
    def test_asked_sends_letters(self):
        world = World(("ann",))
        world.ask("a0", ("file", ("x",)))
        letters = world.letters()
        self.assertTrue(letters)
        self.assertEqual(letters, tuple(sorted(letters)))
        for number, source, target in letters:
            self.assertEqual(source, "a0")
            self.assertIs(world.is_up(target), True)

    def test_carried_till_it_is_told(self):
        world = World(("ann",))
        world.ask("a0", ("file", ("x",)))
        last = -1
        while world.letters():
            number = world.letters()[0][0]
            self.assertGreater(number, last)
            last = number
            self.assertIsNone(world.carry(number))
            self.assertNotIn(number, [row[0] for row in world.letters()])
        self.assertEqual(world.answer(0)[0], DONE)
        self.assertEqual(world.now(), 0)

    def test_no_letter(self):
        world = World(("ann",))
        for word in ("carry", "lose", "double"):
            for number in (*THINGS, 0, 1, 2, 10**20):
                self.refused(NoLetter, "number", number, getattr(world, word), number)
        world.ask("a0", ("file", ("x",)))
        numbers = [row[0] for row in world.letters()]
        for word in ("carry", "lose", "double"):
            for number in (True, False, "0", None, -1, max(numbers) + 1):
                self.refused(NoLetter, "number", number, getattr(world, word), number)
        world.carry(numbers[0])
        self.refused(NoLetter, "number", numbers[0], world.carry, numbers[0])

    def test_lost(self):
        world = World(("ann",))
        world.ask("a0", ("file", ("x",)))
        for number, _, _ in world.letters():
            self.assertIsNone(world.lose(number))
        self.assertEqual(world.letters(), ())
        self.assertEqual(world.order(), ())
        # What was lost is sent again, in time.
        self.assertIs(world.calm(), True)
        self.assertEqual(world.answer(0)[0], DONE)
        self.assertGreater(world.now(), 0)

    def test_doubled(self):
        world = World(("ann",))
        world.ask("a0", ("file", ("x",)))
        first = world.letters()[0]
        self.assertIsNone(world.double(first[0]))
        newest = world.letters()[-1]
        self.assertEqual(newest[1:], first[1:])
        self.assertEqual(len(world.letters()), len(set(world.letters())))
        many = 0
        while world.letters():
            for number, _, _ in world.letters():
                if many < 100:
                    world.double(number)
                    many += 1
                world.carry(number)
        self.assertEqual(world.answer(0)[0], DONE)
        self.assertEqual(len(world.order()), 1)

    def test_one_that_comes_to_a_house_that_is_down_is_lost(self):
        world = World(("ann",))
        world.ask("a0", ("file", ("x",)))
        world.fall("h0")
        world.gone("h1")
        for number, _, _ in world.letters():
            world.carry(number)
        self.assertEqual(world.letters(), ())
        world.rise("h0")
        self.assertEqual(world.order(), ())

    def test_numbers_rise_however_they_go(self):
        world = World(("ann",))
        seen = []
        for name in ("x", "y", "z"):
            world.ask("a0", ("file", (name,)))
            self.assertGreater(world.letters()[0][0], max(seen, default=-1))
            while world.letters():
                seen.extend([row[0] for row in world.letters() if row[0] not in seen])
                world.carry(world.letters()[-1][0])
            world.calm()
        self.assertEqual(len(seen), len(set(seen)))


class QuietTest(WorldCase):
    def test_where_nothing_is_left_no_letters_are_sent(self):
        world = World(("ann", "bob"))
        self.asked(world, "a0", "folder", ("d",))
        self.asked(world, "a1", "look", ("d",))
        world.tick(50)
        self.assertEqual(world.letters(), ())

    def test_what_was_told_is_not_told_again(self):
        world = World(("ann", "bob"))
        world.ask("a0", ("folder", ("d",)))
        while world.letters():
            world.carry(world.letters()[0][0])
        self.assertEqual(world.answer(0)[0], DONE)
        world.tick(3)
        self.assertEqual(world.letters(), ())

    def test_what_waits_long_fills_no_bags(self):
        world = World(("ann", "bob"))
        world.ask("a0", ("folder", ("d",)))
        world.tick(200)
        self.assertLess(len(world.letters()), 20)


class TicksTest(WorldCase):
    def test_ticks(self):
        world = World(("ann",))
        self.assertIsNone(world.tick())
        self.assertIsNone(world.tick(many=200))
        self.assertEqual(world.now(), 201)
        for many in (0, -1, 201, 10**9, None, True, False, "1", (), [], {}):
            self.refused(NoMany, "many", many, world.tick, many)
        self.assertEqual(world.now(), 201)

    def test_a_promise_that_waits_too_long_is_late(self):
        world = World(("ann",), pieces=1, copies=1)
        self.asked(world, "a0", "file", ("x",))
        world.fall("p0")
        world.ask("a0", ("write", ("x",), None, (1,)))
        self.assertIs(world.calm(), False)
        self.assertEqual([row[4][0] for row in world.order()], ["file", "promise"])
        world.rise("p0")
        self.assertIs(world.calm(), True)
        self.assertEqual(world.answer(1)[0], ("no", "late"))
        self.assertEqual(self.asked(world, "a0", "read", ("x",)), ("told", ()))
        self.assertEqual(self.asked(world, "a0", "use", ()), ("told", (0, None)))


class HousesTest(WorldCase):
    def test_no_house(self):
        world = World(("ann",))
        for word in ("fall", "rise", "gone", "bend", "empty", "is_up"):
            for house in (*THINGS, "a1", "h2", "p3", "ann", "A0"):
                self.refused(NoHouse, "house", house, getattr(world, word), house)

    def test_houses_of_another_kind(self):
        world = World(("ann",))
        self.refused(NoHouse, "house", "a0", world.gone, "a0")
        for word in ("bend", "empty"):
            for house in ("a0", "h0", "h1"):
                self.refused(NoHouse, "house", house, getattr(world, word), house)
        world.gone("h1")
        self.refused(NoHouse, "house", "h1", world.bend, "h1")

    def test_down_and_up(self):
        world = World(("ann",))
        for house in ("a0", "h0", "h1", "p0", "p1", "p2"):
            self.refused(Up, "house", house, world.rise, house)
            self.assertIsNone(world.fall(house))
            self.assertIs(world.is_up(house), False)
            self.refused(Down, "house", house, world.fall, house)
            self.assertIsNone(world.rise(house))
            self.assertIs(world.is_up(house), True)

    def test_gone(self):
        world = World(("ann",))
        world.fall("p1")
        for house in ("p0", "p1", "h1"):
            self.assertIsNone(world.gone(house))
            self.assertIs(world.is_up(house), False)
            for word in ("fall", "rise", "gone"):
                self.refused(IsGone, "house", house, getattr(world, word), house)
        for word in ("bend", "empty"):
            self.refused(IsGone, "house", "p1", getattr(world, word), "p1")

    def test_bent_and_emptied_up_or_down(self):
        world = World(("ann",))
        world.fall("p1")
        for house in ("p0", "p1", "p1"):
            self.assertIsNone(world.bend(house))
            self.assertIsNone(world.empty(house))


if __name__ == "__main__":
    unittest.main()
