"""Promise 20: the desk."""

import inspect
import unittest

from farfiles import desk
from farfiles.desk import Desk
from farfiles.errors import Busy, Down, FarError, HouseError, IsGone, NoAsker, NoDeed, NoGroups, NoHouse
from farfiles.errors import NoLetter, NoMany, NoQuestion, NoRow, NoUsers, Up
from farfiles.judging import judge
from farfiles.worlds import World
from worlds_watched import Draw

GROUPS = (("staff", ("ann", "bob")),)

# One good row of each kind, of a World of the users root and ann.
ROWS = (
    "folder a0 d", "file a0 d/f", "strike a0 d/f", "read a0 d/f", "list a0 /", "look a0 d", "use a0 /", "back a0 d",
    "move a0 d e", "link a0 d/f e/f", "write a0 d/f end 5 -6", "write a0 d/f 0 7", "cut a0 d/f 1", "limit a0 d 8",
    "limit a0 d none", "snap a0 / s", "old a0 s d/f", "lease a0 d 9", "glance a0 read d/f", "glance a0 list d",
    "glance a0 look d", "answer 0", "carry 0", "lose 0", "double 0", "tick 3", "fall p0", "rise p0", "gone p0", "bend p0",
    "empty p0", "letters", "alone", "calm", "settled", "fits",
)
# Words that stand in no row's place of this kind.
NO_PATHS = ("", "//", "/d", "d/", "d//e", "D", "d/E", "d-e", "a/b/c/d/e/f/g", "abcdefghi", "d,e", ".", "d/../e", "1", "end1")
NO_NUMBERS = ("", "-", "--1", "+1", "01", "-0", "00", "-01", "1234567890", "-1234567890", "1.0", "1e3", "one", "1-", "0x1", "1_0")


class DeskCase(unittest.TestCase):
    def refused(self, refusal, field, thing, call, *arguments, **named):
        with self.assertRaises((FarError, HouseError)) as caught:
            call(*arguments, **named)
        self.assertIs(type(caught.exception), refusal, arguments)
        found = getattr(caught.exception, field)
        self.assertIs(type(found), type(thing))
        self.assertEqual(found, thing)

    def no_row(self, told_desk, row):
        with self.assertRaises(FarError) as caught:
            told_desk.say(row)
        self.assertIs(type(caught.exception), NoRow, row)
        self.assertIs(caught.exception.row, row)

    def asked(self, told_desk, row):
        """The answer to the question that the row asks, behind a calm."""
        question = told_desk.say(row)
        self.assertEqual(told_desk.say("calm"), "yes")
        return told_desk.say(f"answer {question}")


class MakeTest(DeskCase):
    def test_the_interface(self):
        self.assertEqual(str(inspect.signature(vars(Desk)["__init__"])), "(self, users, *, groups=(), pieces=3, copies=2)")
        self.assertEqual(str(inspect.signature(vars(Desk)["say"])), "(self, row)")
        self.assertEqual(Desk.__module__, desk.__name__)
        self.assertEqual(Desk(users=("ann",), copies=1, pieces=1, groups=GROUPS).say(row="settled"), "0")

    def test_refused_as_a_world(self):
        for users in (None, (), ("ann",) * 5, ["ann"], ("Ann",)):
            self.refused(NoUsers, "users", users, Desk, users, groups=7, pieces=0, copies=9)
        for groups in (None, 7, [], (("staff", ["ann"]),)):
            self.refused(NoGroups, "groups", groups, Desk, ("ann",), groups=groups, pieces=0, copies=9)
        for many in (0, 6, True, None, "3"):
            self.refused(NoMany, "many", many, Desk, ("ann",), pieces=many, copies=9)
        for many in (0, 4, True, None, "3"):
            self.refused(NoMany, "many", many, Desk, ("ann",), pieces=5, copies=many)
        self.refused(NoMany, "many", 2, Desk, ("ann",), pieces=1)

    def test_its_pieces_copies_and_groups(self):
        told_desk = Desk(("root", "bob"), pieces=1, copies=1, groups=GROUPS)
        self.assertEqual(self.asked(told_desk, "folder a0 d"), "done")
        self.refused(NoHouse, "house", "p1", told_desk.say, "fall p1")
        self.refused(NoAsker, "asker", "a2", told_desk.say, "folder a2 d")


class RowTest(DeskCase):
    """What each row is answered, in turn."""

    def test_each_row(self):
        told_desk = Desk(("root", "ann"))
        asked = (
            ("folder a0 d", "done"), ("file a0 d/f", "done"), ("file a0 d/f", "no stands"), ("write a0 d/f end 5 -6 0", "done"),
            ("write a0 d/f 1 7", "done"), ("write a0 d/f 9 7", "no noplace"), ("read a1 d/f", "told 5 7 0"),
            ("read a1 d", "no nofile"), ("list a0 /", "told"), ("list a0 d/f", "no nofolder"), ("look a1 d/f", "told"),
            ("use a1 d", "told"), ("link a0 d/f g", "done"), ("move a0 d e", "done"), ("read a1 e/f", "told 5 7 0"),
            ("snap a0 / s", "done"), ("cut a0 g 1", "done"), ("read a0 e/f", "told 5"), ("old a0 s e/f", "told"),
            ("old a1 none /", "no nosnap"), ("limit a0 e 1", "done"), ("limit a0 e 0", "no noroom"), ("write a0 g end 1", "no noroom"),
            ("limit a0 e none", "done"), ("glance a1 read g", "told 5"), ("glance a1 list e", "told"), ("glance a1 look g", "told"),
            ("cut a0 g 0", "done"), ("read a0 g", "told"), ("lease a1 g 9", "told"), ("back a1 g", "done"), ("strike a0 g", "done"),
            ("strike a0 /", "no top"), ("read a1 g", "no nothere"),
        )
        for at, (row, answer) in enumerate(asked):
            with self.subTest(row=row):
                self.assertEqual(told_desk.say(row), str(at))
                self.assertEqual(told_desk.say(f"answer {at}"), "open")
                self.assertEqual(told_desk.say("calm"), "yes")
                self.assertEqual(told_desk.say(f"answer {at}"), answer)
                self.assertEqual(told_desk.say("fits"), "yes")
        self.assertEqual(told_desk.say("glance a1 read g"), str(len(asked)))
        self.assertEqual(told_desk.say(f"answer {len(asked)}"), "no nothere")
        self.assertEqual(told_desk.say("settled"), str(len(asked) + 2))

    def test_letters_and_ticks(self):
        told_desk = Desk(("ann",))
        self.assertEqual(told_desk.say("letters"), "0")
        self.assertEqual(told_desk.say("file a0 f"), "0")
        waiting = int(told_desk.say("letters"))
        self.assertGreater(waiting, 0)
        self.assertEqual(told_desk.say("double 0"), "ok")
        self.assertEqual(told_desk.say("letters"), str(waiting + 1))
        self.assertEqual(told_desk.say("lose 0"), "ok")
        self.assertEqual(told_desk.say("letters"), str(waiting))
        self.refused(NoLetter, "number", 0, told_desk.say, "carry 0")
        self.assertEqual(told_desk.say("tick 200"), "ok")
        self.assertEqual(told_desk.say("carry 1"), "ok")
        self.assertEqual(told_desk.say("calm"), "yes")
        self.assertEqual(told_desk.say("letters"), "0")
        self.assertEqual(told_desk.say("answer 0"), "done")

    def test_houses(self):
        told_desk = Desk(("ann",))
        for row in ("fall a0", "rise a0", "fall p0", "bend p0", "empty p0", "rise p0", "gone p1", "fall h1"):
            self.assertEqual(told_desk.say(row), "ok")
        self.assertEqual(told_desk.say("alone"), "yes")
        self.assertEqual(told_desk.say("rise h1"), "ok")
        self.assertEqual(told_desk.say("alone"), "no")
        self.assertEqual(told_desk.say("calm"), "yes")
        self.assertEqual(told_desk.say("fall p0"), "ok")
        self.assertEqual(told_desk.say("calm"), "no")

    def test_lost(self):
        told_desk = Desk(("ann",), pieces=1, copies=1)
        for row in ("file a0 f", "write a0 f end 1 2"):
            self.asked(told_desk, row)
        self.assertEqual(told_desk.say("gone p0"), "ok")
        told_desk.say("read a0 f")
        told_desk.say("calm")
        self.assertEqual(told_desk.say("answer 2"), "lost")
        self.assertEqual(told_desk.say("glance a0 read f"), "3")
        self.assertEqual(told_desk.say("answer 3"), "lost")
        self.assertEqual(told_desk.say("fits"), "yes")

    def test_an_asker_that_fell(self):
        told_desk = Desk(("ann",))
        told_desk.say("file a0 f")
        told_desk.say("fall a0")
        told_desk.say("rise a0")
        self.assertEqual(told_desk.say("calm"), "yes")
        self.assertEqual(told_desk.say("answer 0"), "open")


class NoRowTest(DeskCase):
    def check(self, *rows):
        told_desk = Desk(("root", "ann"))
        for row in rows:
            self.no_row(told_desk, row)
        # Nothing was changed.
        self.assertEqual([told_desk.say(row) for row in ("letters", "settled", "file a0 f")], ["0", "0", "0"])

    def test_the_good_ones(self):
        for row in ROWS:
            told_desk = Desk(("root", "ann"))
            told_desk.say("file a1 f")
            if row == "rise p0":
                told_desk.say("fall p0")
            self.assertIsInstance(told_desk.say(row), str)

    def test_no_text(self):
        self.check(None, True, 7, 0, (), [], {}, ("letters",), ["letters"], b"letters", ("folder", "a0", "d"))

    def test_blanks_and_line_ends(self):
        rows = ["", " ", "\n", "  "]
        for row in ROWS:
            rows += [" " + row, row + " ", row + "\n", "\n" + row, row + "\r", row.replace(" ", "\n"), row.replace(" ", "\n ")]
            if " " in row:
                rows += [row.replace(" ", "  ", 1), row.replace(" ", "  ")]
        self.check(*[row for row in rows if row not in ROWS])

    def test_words(self):
        rows = ["say", "Letters", "FITS", "held a0 ann", "share a0 ann 4", "rights a0 d ann root rw r r", "promise a0 f end 1", "put a0 1 1",
                "sight a0 d", "order", "told", "now", "up p0", "a0 folder d", "0", "-", "/", "None"]
        for row in ROWS:
            word, *rest = row.split(" ")
            rows += [" ".join([word.upper(), *rest]), " ".join([word + "s", *rest])]
        self.check(*rows)

    def test_numbers_of_words(self):
        for row in ROWS:
            words = row.split(" ")
            shorter = [" ".join(words[:-1])] if len(words) > 1 else []
            if row.startswith("write"):
                shorter = [" ".join(words[:at]) for at in (1, 2, 3, 4)]
                self.check(*shorter)
            else:
                self.check(*shorter, row + " 1", row + " d", row + " a0", row + " end")

    def test_paths(self):
        rows = []
        for path in NO_PATHS:
            rows += [f"{word} a0 {path}" for word in ("folder", "file", "strike", "read", "list", "look", "use", "back")]
            rows += [f"move a0 {path} d", f"move a0 d {path}", f"link a0 {path} d", f"link a0 d {path}", f"write a0 {path} end 1"]
            rows += [f"cut a0 {path} 0", f"limit a0 {path} none", f"snap a0 {path} s", f"old a0 s {path}", f"lease a0 {path} 3"]
            rows += [f"glance a0 {word} {path}" for word in ("read", "list", "look")]
        self.check(*rows)

    def test_numbers(self):
        rows = []
        for number in NO_NUMBERS:
            rows += [f"write a0 f {number} 1", f"write a0 f end {number}", f"write a0 f end 1 {number}", f"write a0 f 0 1 {number} 2"]
            rows += [f"cut a0 f {number}", f"limit a0 f {number}", f"lease a0 f {number}"]
            rows += [f"{word} {number}" for word in ("answer", "carry", "lose", "double", "tick")]
        rows += ["write a0 f none 1", "write a0 f 0 end", "limit a0 f end", "cut a0 f end", "cut a0 f none", "lease a0 f none", "tick end",
                 "write a0 f End 1", "limit a0 f None", "answer open"]
        self.check(*rows)

    def test_glances(self):
        self.check(*[f"glance a0 {word} f" for word in ("use", "old", "Read", "held", "sight", "glance", "f", "-")])

    def test_it_goes_ahead_of_all_else(self):
        told_desk = Desk(("ann",))
        told_desk.say("file a0 f")
        for row in ("file a9 F", "file a0 F", "write a9 f end 01", "answer 07", "fall", "tick 0 0", "carry -0"):
            self.no_row(told_desk, row)


class RefusedTest(DeskCase):
    """What the World refuses is refused by the same class and field."""

    def test_askers(self):
        told_desk = Desk(("ann", "bob"))
        for name in ("a2", "ann", "h0", "p0", "A0", "!", "7", "a0,"):
            self.refused(NoAsker, "asker", name, told_desk.say, f"folder {name} d")
            self.refused(NoAsker, "asker", name, told_desk.say, f"write {name} d end 1")
        told_desk.say("fall a1")
        self.refused(Down, "house", "a1", told_desk.say, "folder a1 d")
        told_desk.say("folder a0 d")
        self.refused(Busy, "asker", "a0", told_desk.say, "folder a0 d")
        # A question that was refused has no number.
        told_desk.say("rise a1")
        self.assertEqual(told_desk.say("folder a1 e"), "1")

    def test_deeds(self):
        told_desk = Desk(("ann",))
        cells = " ".join(["1"] * 25)
        for row, deed in (
            ("snap a0 / S", ("snap", (), "S")), ("snap a0 d abcdefghi", ("snap", ("d",), "abcdefghi")), ("old a0 x1 d", ("old", "x1", ("d",))),
            ("cut a0 d -1", ("cut", ("d",), -1)), ("limit a0 d -5", ("limit", ("d",), -5)), ("lease a0 d 0", ("lease", ("d",), 0)),
            ("lease a0 d 31", ("lease", ("d",), 31)), ("write a0 d -1 5", ("write", ("d",), -1, (5,))),
            (f"write a0 d end {cells}", ("write", ("d",), None, (1,) * 25)),
        ):
            self.refused(NoDeed, "deed", deed, told_desk.say, row)
        self.refused(NoAsker, "asker", "a1", told_desk.say, "cut a1 d -1")
        self.assertEqual(told_desk.say("letters"), "0")

    def test_good_ends(self):
        told_desk = Desk(("ann",))
        self.asked(told_desk, "file a0 f")
        cells = " ".join(["-999999999", "999999999", "0"] * 8)
        self.assertEqual(self.asked(told_desk, f"write a0 f end {cells}"), "done")
        self.assertEqual(self.asked(told_desk, "read a0 f"), f"told {cells}")
        self.assertEqual(self.asked(told_desk, "cut a0 f 999999999"), "no noplace")
        self.assertEqual(self.asked(told_desk, "look a0 a/b/c/d/e/f"), "no nothere")

    def test_numbers(self):
        told_desk = Desk(("ann",))
        for word in ("carry", "lose", "double"):
            for number in (0, 5, -1, 999999999):
                self.refused(NoLetter, "number", number, told_desk.say, f"{word} {number}")
        for number in (0, -1, 7):
            self.refused(NoQuestion, "question", number, told_desk.say, f"answer {number}")
        for number in (0, -1, 201, 999999999):
            self.refused(NoMany, "many", number, told_desk.say, f"tick {number}")

    def test_houses(self):
        told_desk = Desk(("ann",))
        for name in ("a1", "h2", "p3", "P0", "ann", "0", "?"):
            for word in ("fall", "rise", "gone", "bend", "empty"):
                self.refused(NoHouse, "house", name, told_desk.say, f"{word} {name}")
        self.refused(NoHouse, "house", "a0", told_desk.say, "gone a0")
        self.refused(NoHouse, "house", "h0", told_desk.say, "bend h0")
        self.refused(NoHouse, "house", "a0", told_desk.say, "empty a0")
        self.refused(Up, "house", "p0", told_desk.say, "rise p0")
        told_desk.say("fall p0")
        self.refused(Down, "house", "p0", told_desk.say, "fall p0")
        told_desk.say("gone p0")
        for word in ("fall", "rise", "gone", "bend", "empty"):
            self.refused(IsGone, "house", "p0", told_desk.say, f"{word} p0")


class DrawnTest(DeskCase):
    """A desk beside a World that is asked the same by its own methods."""

    PATHS = ("f", "d", "d/f", "/", "d/e/g", "x")

    def drawn_row(self, draw, world):
        asker = draw.one(("a0", "a1", "a2"))
        path = draw.one(self.PATHS)
        word = draw.one(ROWS).split(" ")[0]
        if word in ("answer", "carry", "lose", "double") or draw.chance(30):
            letters = world.letters()
            if letters and draw.chance(80):
                return f"{draw.one(('carry', 'carry', 'carry', 'carry', 'lose', 'double'))} {draw.one(letters)[0]}"
            return f"{draw.one(('answer', 'carry'))} {draw.below(30) - 1}"
        if word in ("fall", "rise", "gone", "bend", "empty"):
            house = draw.one(("a0", "a1", "h0", "h1", "p0", "p1", "p2", "p3", "p4"))
            return f"{word if word != 'gone' or draw.chance(20) else 'rise'} {house}"
        rest = {
            "move": f"{path} {draw.one(self.PATHS)}", "link": f"{path} {draw.one(self.PATHS)}", "cut": f"{path} {draw.below(4)}",
            "write": f"{path} {draw.one(('end', '0', '2'))} {draw.below(9) - 4} 3", "limit": f"{path} {draw.one(('none', '3', '9'))}",
            "snap": f"{path} s", "old": f"s {path}", "lease": f"{path} {draw.below(32)}",
            "glance": f"{draw.one(('read', 'list', 'look'))} {path}",
        }
        if word in ("letters", "alone", "calm", "settled", "fits"):
            return word
        return f"tick {draw.below(4)}" if word == "tick" else f"{word} {asker} {rest.get(word, path)}"

    def by_methods(self, world, users, row):
        """What the desk must answer, by the World's methods."""
        word, *rest = row.split(" ")
        if word in ("carry", "lose", "double", "tick"):
            getattr(world, word)(int(rest[0]))
            return "ok"
        if word in ("fall", "rise", "gone", "bend", "empty"):
            getattr(world, word)(rest[0])
            return "ok"
        if word in ("alone", "calm"):
            return "yes" if getattr(world, word)() else "no"
        if word == "letters":
            return str(len(world.letters()))
        if word == "settled":
            return str(len(world.order()))
        if word == "fits":
            return "yes" if judge(GROUPS, users, world.order(), world.told()) is None else "no"
        if word == "answer":
            return self.answer(world, int(rest[0]))
        return str(world.ask(rest[0], self.deed(word, rest[1:])))

    def answer(self, world, question):
        told = world.answer(question)
        if told is None:
            return "open"
        deed = [row[2] for row in world.told() if row[0] == question][0]
        words = [told[0][0]]
        if words == ["no"]:
            words.append(told[0][1])
        if words == ["told"] and (deed[0] == "read" or deed[:1] == ("glance",) and deed[1][0] == "read"):
            words += [str(cell) for cell in told[0][1]]
        return " ".join(words)

    def deed(self, word, rest):
        def path(text):
            return () if text == "/" else tuple(text.split("/"))
        if word in ("move", "link"):
            return (word, path(rest[0]), path(rest[1]))
        if word in ("cut", "lease"):
            return (word, path(rest[0]), int(rest[1]))
        if word == "limit":
            return (word, path(rest[0]), None if rest[1] == "none" else int(rest[1]))
        if word == "write":
            place = None if rest[1] == "end" else int(rest[1])
            return (word, path(rest[0]), place, tuple(int(cell) for cell in rest[2:]))
        if word == "snap":
            return (word, path(rest[0]), rest[1])
        if word == "old":
            return (word, rest[0], path(rest[1]))
        if word == "glance":
            return (word, (rest[0], path(rest[1])))
        return (word, path(rest[0]))

    def outcome(self, call, *arguments):
        try:
            return call(*arguments)
        except (FarError, HouseError) as refusal:
            return (type(refusal), vars(refusal))

    def test_drawn(self):
        seen = set()
        for seed in range(25):
            draw = Draw(seed)
            users = ("root", "ann")
            told_desk, world = Desk(users, groups=GROUPS), World(users, groups=GROUPS)
            ahead = ["file a0 f", "calm", "folder a0 d", "calm", "write a0 f end 1 2", "calm", "read a1 f", "calm", "answer 3"]
            for step in range(250):
                row = ahead[step] if step < len(ahead) else self.drawn_row(draw, world)
                wanted = self.outcome(self.by_methods, world, users, row)
                self.assertEqual(self.outcome(told_desk.say, row), wanted, row)
                seen.add((row.split(" ")[0], wanted if isinstance(wanted, str) else wanted[0]))
            self.assertEqual(told_desk.say("fits"), "yes")
        words = {word for word, answer in seen if isinstance(answer, str)}
        self.assertEqual(words, {row.split(" ")[0] for row in ROWS})
        for refusal in (NoAsker, NoDeed, Busy, Down, Up, NoLetter, NoQuestion, NoMany, NoHouse, IsGone):
            self.assertIn(refusal, {answer for _, answer in seen})


if __name__ == "__main__":
    unittest.main()
