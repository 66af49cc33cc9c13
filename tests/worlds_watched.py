"""A World that is watched: all that it tells is held against a plain Tree.

Nothing here looks into the World; all is taken from what its methods tell. Only
which pieces a reading is of is looked up in a tree without cells of its own.
"""

from farfiles.cores import Core
from farfiles.fillings import wanted_parts
from farfiles.sizes import BOUND, MOST
from farfiles.trees import Tree
from farfiles.worlds import World

TELLS = ("read", "list", "look", "use", "held", "old", "glance")
REPEATED = ("read", "list", "look", "use", "held", "old", "lease")


class Draw:
    """Numbers drawn by a fixed rule, the same ones for the same seed."""

    def __init__(self, seed):
        self.state = seed * 2654435761 % 2**32

    def below(self, many):
        self.state = (self.state * 6364136223846793005 + 1442695040888963407) % 2**64
        return (self.state >> 33) % many

    def one(self, things):
        return things[self.below(len(things))]

    def chance(self, percent):
        return self.below(100) < percent


def by_sight(sight, word):
    """What read, list or look are told, by a sight."""
    look, inner = sight
    if word == "look" or look[0] == "no":
        return look
    if word == {"folder": "list", "file": "read"}[look[1][0]]:
        return inner
    return ("no", {"read": "nofile", "list": "nofolder"}[word])


def agrees(told, wanted, deed):
    """Whether what was told is what the tree tells, or fitly told as lost."""
    if told == wanted:
        return True
    if deed[0] == "glance":
        deed = deed[1]
    if deed[0] in ("read", "old"):
        return is_lost(told, wanted)
    if deed[0] == "lease":
        (look, inner), until = told[1]
        (wanted_look, wanted_inner), wanted_until = wanted[1]
        return (look, until) == (wanted_look, wanted_until) and is_lost(inner, wanted_inner)
    return False


def is_lost(told, wanted):
    if wanted[0] != "told" or not wanted[1] or not isinstance(wanted[1][0], int):
        return False
    houses = told[1]
    return told[0] == "lost" and houses and list(houses) == sorted(set(houses))


def has_lost(answer, deed):
    """Whether the answer, or the second one of its sight, tells of lost cells."""
    return (answer[1][0][1] if deed[0] == "lease" else answer)[0] == "lost"


def part_of(asked, row):
    """Whether a row of the order may be of a question that was asked so."""
    if asked[0] == "write":
        _, path, place, data = asked
        if row[0] == "put":
            return row[2] == data
        return row == ("promise", path, place, len(data))
    return row == (asked[1] if asked[0] == "glance" else asked)


class Watched:
    def __init__(self, case, users, *, groups=(), pieces=3, copies=2):
        self.case = case
        self.users = users
        self.groups = groups
        self.pieces = [f"p{at}" for at in range(pieces)]
        self.copies = copies
        self.world = World(users, groups=groups, pieces=pieces, copies=copies)
        self.askers = [f"a{at}" for at in range(len(users))]
        self.heads = ["h0", "h1"]
        self.houses = self.askers + self.heads + self.pieces
        self.down = set()
        self.lost = set()
        self.leaving = set()
        self.ever_bent = set()
        self.in_step = {"h0", "h1"}
        self.single = None
        self.damaged = set()
        self.lossy = False
        self.heads_lossy = False
        self.asked = []
        self.told_at_ask = []
        # For each question the questions that were told as lost when it was asked.
        self.lost_at_ask = []
        self.open = {}
        self.fallen = set()
        # For each asker, since it is up: (QUESTION, DEED) asked.
        self.since_up = {name: [] for name in self.askers}
        self.order_seen = ()
        self.told_seen = ()

    # What is done.

    def ask(self, asker, deed):
        world = self.world
        letters = world.letters()
        wanted = self.at_once(asker, deed)
        by_lease = deed[0] != "glance" or self.of_old(asker, deed[1]) is None
        told_ahead = max([row[4] for row in world.told()], default=0)
        lost_ahead = [row[0] for row in world.told() if has_lost(row[3], row[2])]
        question = world.ask(asker, deed)
        self.case.assertEqual(question, len(self.asked))
        self.asked.append((asker, deed))
        self.told_at_ask.append(told_ahead)
        self.lost_at_ask.append(lost_ahead)
        self.since_up[asker].append((question, deed))
        if wanted is None:
            self.case.assertIsNone(world.answer(question), deed)
            self.case.assertNotEqual(world.letters(), ())
            self.open[asker] = question
        else:
            self.case.assertEqual(world.answer(question), wanted, deed)
            self.case.assertEqual(world.letters(), letters)
            if by_lease:
                self.check_newest(asker, deed, wanted)
        return question

    def step(self, word, *arguments):
        told = getattr(self.world, word)(*arguments)
        for asker, question in list(self.open.items()):
            if self.world.answer(question) is not None:
                del self.open[asker]
        return told

    def fall(self, house):
        self.step("fall", house)
        self.down.add(house)
        self.in_step.discard(house)
        if house in self.askers:
            if house in self.open:
                self.fallen.add(self.open.pop(house))
            self.since_up[house] = []

    def rise(self, house):
        self.step("rise", house)
        self.down.discard(house)

    def gone(self, house):
        other = {"h0": "h1", "h1": "h0"}.get(house)
        if other is not None and other not in self.in_step and self.single != other:
            self.heads_lossy = True
        self.step("gone", house)
        self.lost.add(house)
        self.note_damage(house)

    def bend(self, house):
        self.step("bend", house)
        self.ever_bent.add(house)
        self.note_damage(house)

    def empty(self, house):
        self.step("empty", house)
        self.leaving.add(house)
        self.note_damage(None)

    def note_damage(self, house):
        if house in self.pieces:
            self.damaged.add(house)
        well = set(self.pieces) - self.lost - self.leaving - self.damaged
        if len(self.damaged) >= self.copies or not well:
            self.lossy = True

    def up(self, house):
        return house not in self.down and house not in self.lost

    def alone(self):
        up = [head for head in self.heads if self.up(head)]
        wanted = len(up) == 1 and (up[0] in self.in_step or self.single == up[0])
        self.case.assertIs(self.world.alone(), wanted)
        if wanted:
            self.single = up[0]

    def must_be_calm(self):
        """Whether calm must tell True."""
        for house in self.houses:
            beside = house in self.heads and self.single not in (None, house)
            if house in self.down and house not in self.lost and not beside:
                return False
        if not set(self.pieces) - self.lost - self.leaving:
            return False
        for head in self.heads:
            if head in self.lost and self.single in (None, head):
                return False
        return True

    def calm(self):
        must = self.must_be_calm()
        start = self.world.now()
        told = self.step("calm")
        self.case.assertEqual(self.world.letters(), ())
        self.case.assertLessEqual(self.world.now() - start, 300)
        up = [head for head in self.heads if self.up(head)]
        if must:
            self.case.assertIs(told, True)
        if told:
            self.case.assertEqual(self.open, {})
            self.case.assertFalse([piece for piece in self.pieces if piece in self.down - self.lost])
            self.case.assertTrue(len(up) == 2 or self.single in up)
            self.damaged = set()
            if not set(self.pieces) - self.lost - self.leaving:
                self.lossy = True
            if len(up) == 2:
                self.in_step = set(self.heads)
                self.single = None
        elif not must and len(self.open) == 0 and self.world.now() - start < 300:
            # It ended early: then what it told must be by a house that's down.
            low = [piece for piece in self.pieces if piece in self.down - self.lost]
            self.case.assertTrue(low or not (len(up) == 2 or self.single in up))
        return told

    # What is told at once.

    def told_rows(self, asker):
        questions = {question: deed for question, deed in self.since_up[asker]}
        return [row for row in self.world.told() if row[0] in questions]

    def tick_at(self, place):
        return {row[0]: row[1] for row in self.world.order()}[place]

    def at_once(self, asker, deed):
        """The answer that must be told at once, None where none may be."""
        if deed[0] == "glance":
            known = self.of_old(asker, deed[1])
            return self.by_lease(asker, deed[1]) if known is None else known
        if deed[0] in ("read", "list", "look"):
            return self.by_lease(asker, deed)
        return None

    def by_lease(self, asker, deed):
        word, path = deed
        leases = [row for row in self.told_rows(asker) if row[2][:2] == ("lease", path)]
        if not leases:
            return None
        question, _, _, answer, place, _, _ = leases[-1]
        behind = [other for number, other in self.since_up[asker] if number > question]
        if [other for other in behind if other[0] not in TELLS and other[0] != "lease"]:
            return None
        sight, until = answer[1]
        if self.world.now() >= until:
            return None
        return (by_sight(sight, word), place, 0)

    def of_old(self, asker, deed):
        word, path = deed
        known = {}
        for _, _, asked, answer, place, _, _ in self.told_rows(asker):
            if asked == deed or asked == ("glance", deed):
                known[place] = answer
            if asked[:2] == ("lease", path):
                look, inner = answer[1][0]
                if word == "look":
                    known[place] = look
                elif look[0] == "told" and (word == "list") == (look[1][0] == "folder"):
                    known[place] = inner
        if not known:
            return None
        place = max(known)
        age = self.world.now() - self.tick_at(place)
        return (known[place], place, age) if age <= BOUND else None

    def check_newest(self, asker, deed, wanted):
        """What is told by a lease is what the tree tells behind all that is settled."""
        asked = deed[1] if deed[0] == "glance" else deed
        tree = Tree(self.groups)
        rows = self.world.order()
        for _, tick, who, _, done in rows:
            tree.do(tick, self.user(who), done)
        sight = tree.sight(self.user(asker), asked[1])
        self.case.assertTrue(agrees(wanted[0], by_sight(sight, asked[0]), asked), deed)

    def user(self, asker):
        return self.users[int(asker[1:])]

    # What is told at the end, or in between.

    def check(self):
        order, told = self.world.order(), self.world.told()
        case = self.case
        case.assertEqual(order[:len(self.order_seen)], self.order_seen)
        old = {row[0]: row for row in told}
        for row in self.told_seen:
            case.assertEqual(old[row[0]], row)
        self.order_seen, self.told_seen = order, told
        answers, until = self.check_order(order)
        self.check_told(order, told, answers, until)
        self.check_lost_stays(order, told)

    def check_order(self, order):
        """The answers of a plain tree; the order's own rules; and the leases'."""
        case = self.case
        tree = Tree(self.groups)
        leases = {}
        until = {}
        answers = {}
        last_at, last_tick = 0, 0
        placed = {}
        newest = {}
        for at, tick, asker, question, deed in order:
            case.assertGreater(at, last_at)
            case.assertGreaterEqual(tick, last_tick)
            case.assertLessEqual(tick, self.world.now())
            last_at, last_tick = at, tick
            case.assertEqual(self.asked[question][0], asker)
            case.assertTrue(part_of(self.asked[question][1], deed), deed)
            case.assertGreaterEqual(question, newest.get(asker, 0))
            case.assertGreater(at, self.told_at_ask[question])
            newest[asker] = question
            rows = placed.setdefault(question, [])
            if rows:
                again = deed == rows[-1][1] and deed[0] in REPEATED
                put = len(rows) == 1 and rows[0][2] == ("done", deed[1]) and deed[0] == "put"
                case.assertTrue(again or put, deed)
            else:
                case.assertNotEqual(deed[0], "put")
            stand = [key for key, end in leases.items() if key[0] != asker and tick < end]
            ahead = [tree.sight(self.user(who), path) for who, path in stand]
            answer = tree.do(tick, self.user(asker), deed)
            behind = [tree.sight(self.user(who), path) for who, path in stand]
            case.assertEqual(ahead, behind, (at, tick, asker, deed))
            rows.append((at, deed, answer))
            answers[question] = (at, answer, deed)
            if deed[0] == "lease":
                leases[asker, deed[1]] = answer[1][1]
                until[at] = (asker, deed[1], answer[1][1])
            elif deed[0] == "back":
                leases.pop((asker, deed[1]), None)
        return answers, until

    def check_told(self, order, told, answers, until):
        case = self.case
        ticks = {row[0]: row[1] for row in order}
        late = {}
        last = -1
        for question, asker, deed, answer, at, age, tick in told:
            case.assertGreater(question, last)
            last = question
            case.assertEqual((asker, deed), self.asked[question])
            case.assertEqual(self.world.answer(question), (answer, at, age))
            case.assertNotIn(question, self.fallen)
            case.assertLessEqual(ticks[at], tick)
            self.check_lost(answer, deed)
            if question in answers:
                place, wanted, done = answers[question]
                case.assertEqual((at, age), (place, 0))
                case.assertTrue(agrees(answer, wanted, deed), (deed, answer, wanted))
                case.assertFalse(done[0] == "promise" and wanted[0] == "done")
                continue
            late.setdefault(at, []).append((asker, deed, answer, age, tick))
        tree = Tree(self.groups)
        for at, when, who, _, done in order:
            tree.do(when, self.user(who), done)
            for asker, deed, answer, age, tick in late.pop(at, []):
                inner = deed[1] if deed[0] == "glance" else deed
                wanted = by_sight(tree.sight(self.user(asker), inner[1]), inner[0])
                case.assertTrue(agrees(answer, wanted, deed), (deed, answer, wanted))
                leased = until.get(at, (None, None, 0))
                if age == 0 and leased[:2] == (asker, inner[1]) and tick < leased[2]:
                    continue
                case.assertEqual(deed[0], "glance")
                case.assertEqual(age, tick - when)
                case.assertLessEqual(age, BOUND)
        case.assertEqual(late, {})

    def check_lost(self, answer, deed):
        if has_lost(answer, deed):
            answer = answer[1][0][1] if deed[0] == "lease" else answer
            self.case.assertTrue(self.lossy, (deed, answer))
            self.case.assertLessEqual(set(answer[1]), self.lost | self.ever_bent)

    def check_lost_stays(self, order, told):
        """What was told as lost was lost: it isn't told behind that."""
        core = Core(self.groups)
        pieces = {}
        for at, tick, who, _, done in order:
            short = ("put", done[1], len(done[2])) if done[0] == "put" else done
            wanted = wanted_parts(done[0], core.act(tick, self.user(who), short))
            pieces[at] = {piece for piece, _, _ in wanted or ()}
        settled = {row[3] for row in order}
        lost = {row[0]: pieces[row[4]] for row in told if has_lost(row[3], row[2])}
        for question, _, deed, answer, at, _, _ in told:
            if question in settled and question not in lost:
                for ahead in self.lost_at_ask[question]:
                    missing = ahead in settled and lost[ahead] <= pieces[at]
                    self.case.assertFalse(missing, (ahead, question, deed, answer))


NAMES = ("a", "b", "c")
KNOWN = (("b",), ("a", "b"), ("a",), ())

WORDS = (
    "folder", "folder", "file", "file", "file", "link", "move", "strike", "cut", "rights",
    "read", "read", "read", "list", "look", "limit", "share", "use", "held", "snap", "old",
    "write", "write", "write", "write", "write", "write", "lease", "lease", "lease", "back",
    "glance", "glance", "glance",
)
LEASE_WORDS = (
    "lease", "lease", "lease", "lease", "back", "read", "read", "list", "look", "glance",
    "glance", "write", "write", "write", "cut", "file", "folder", "strike", "move", "link", "rights",
)
CELL_WORDS = (
    "write", "write", "write", "write", "read", "read", "read", "glance", "lease", "snap", "old",
    "old", "cut", "file",
)

ROOM_WORDS = (
    "limit", "limit", "limit", "share", "share", "write", "write", "write", "write", "link", "move", "move", "rights", "rights",
    "use", "held", "cut", "strike", "folder", "read",
)


class Kind:
    """What a drawn row is mostly made of."""

    def __init__(self, words, known, falling):
        self.words = words
        # How often, of a hundred, a path is one of KNOWN.
        self.known = known
        # How often, of a hundred, what is harmed only falls.
        self.falling = falling

    def houses(self, watched):
        return watched.houses

    def fate(self, draw, source):
        """What becomes of a letter that nothing bad happens to otherwise."""
        return "carry"


class Cells(Kind):
    def houses(self, watched):
        return watched.pieces


class Heads(Kind):
    def houses(self, watched):
        return watched.heads


class Unheard(Cells):
    """Much of what piece houses send is lost."""

    def fate(self, draw, source):
        return "lose" if source[0] == "p" and draw.chance(60) else "carry"


KINDS = {
    "all": Kind(WORDS, 60, 70), "leases": Kind(LEASE_WORDS, 90, 100),
    "cells": Cells(CELL_WORDS, 90, 30), "heads": Heads(WORDS, 80, 97),
    "room": Kind(ROOM_WORDS, 90, 90), "unheard": Unheard(CELL_WORDS, 90, 45),
}


def drawn_path(draw, known=60):
    if draw.chance(known):
        return draw.one(KNOWN)
    return tuple([draw.one(NAMES) for _ in range(draw.below(4))])


def drawn_deed(draw, users, kind):
    path = drawn_path(draw, kind.known)
    word = draw.one(kind.words)
    if word in ("folder", "file", "strike", "read", "list", "look", "use", "back"):
        return (word, path)
    if word in ("link", "move"):
        return (word, path, drawn_path(draw))
    if word == "cut":
        return (word, path, draw.below(6))
    if word == "rights":
        texts = ("", "r", "w", "rw", "rw", "rw")
        rights = tuple([draw.one(texts) for _ in range(3)])
        return (word, path, draw.one(users), draw.one(("root", "staff")), rights)
    if word == "limit":
        return (word, path, draw.one((None, 3, 10, 30)))
    if word == "share":
        return (word, draw.one(users), draw.one((None, 3, 10, 30)))
    if word == "held":
        return (word, draw.one(users))
    if word == "snap":
        return (word, path, draw.one(("x", "y", "z")))
    if word == "old":
        return (word, draw.one(("x", "y", "z")), path)
    if word == "lease":
        return (word, path, 1 + draw.below(30))
    if word == "glance":
        return (word, (draw.one(("read", "list", "look")), path))
    data = tuple([draw.below(9) - 3 for _ in range(1 + draw.below(draw.one((3, 3, 3, MOST))))])
    return ("write", path, draw.one((None, None, 0, 1, 2, 5)), data)


def setup(watched):
    """Something to go on with."""
    for deed in (("folder", ("a",)), ("file", ("b",)), ("file", ("a", "b")),
                 ("write", ("b",), None, (1, 2, 3)), ("write", ("a", "b"), None, (4, 5))):
        watched.ask("a0", deed)
        watched.calm()


def drawn_step(watched, draw, harm, kind):
    """One step of any kind; harm tells how often, of a hundred, something bad happens."""
    roll = draw.below(100)
    if roll < 30:
        asker = draw.one(watched.askers)
        if asker not in watched.down and asker not in watched.open:
            watched.ask(asker, drawn_deed(draw, watched.users + ("root",), kind))
    elif roll < 80:
        drawn_letter(watched, draw, harm, kind)
    elif roll < 90:
        watched.step("tick", 1 + draw.below(draw.one((2, 2, 2, 30))))
    elif roll < 93:
        for number, source, _ in watched.world.letters():
            watched.step(kind.fate(draw, source), number)
    elif draw.chance(harm):
        drawn_harm(watched, draw, kind)
    else:
        drawn_help(watched, draw)


def drawn_letter(watched, draw, harm, kind):
    letters = watched.world.letters()
    if letters:
        oldest = letters[:1 + draw.below(6)]
        number, source, _ = draw.one(letters if draw.chance(30) else oldest)
        word = kind.fate(draw, source) if draw.chance(100 - harm) else draw.one(("lose", "double"))
        watched.step(word, number)


def drawn_harm(watched, draw, kind):
    house = draw.one(kind.houses(watched))
    piece = draw.one(watched.pieces)
    head = draw.one(watched.heads)
    if draw.chance(kind.falling):
        if watched.up(house):
            watched.fall(house)
        return
    roll = draw.below(100)
    if roll < 60 and piece not in watched.lost:
        watched.bend(piece)
    elif 60 <= roll < 75 and piece not in watched.lost:
        watched.gone(piece)
    elif 75 <= roll < 90 and piece not in watched.lost:
        watched.empty(piece)
    elif roll >= 90 and head not in watched.lost:
        watched.gone(head)


def drawn_help(watched, draw):
    if draw.chance(40):
        watched.alone()
    for house in sorted(watched.down - watched.lost):
        if draw.chance(60):
            watched.rise(house)
    if draw.chance(25):
        watched.calm()


def finish(watched):
    """All that isn't gone rises, and all comes to rest."""
    for house in sorted(watched.down - watched.lost):
        watched.rise(house)
    watched.alone()
    watched.calm()
    watched.check()


GROUPS = (("root", ("ann",)), ("staff", ("ann", "bob")))


def drawn_world(case, seed, steps, kind):
    """A World that a long drawn row of all that can be has been done to."""
    draw = Draw(seed)
    users = tuple([draw.one(("ann", "bob", "eve", "root")) for _ in range(1 + draw.below(4))])
    pieces = 1 + draw.below(5)
    copies = 1 + draw.below(min(3, pieces))
    groups = GROUPS if draw.chance(70) else ()
    watched = Watched(case, users, groups=groups, pieces=pieces, copies=copies)
    setup(watched)
    harm = draw.one((0, 5, 20, 40))
    for _ in range(steps):
        drawn_step(watched, draw, harm, KINDS[kind])
    watched.check()
    finish(watched)
    return watched
