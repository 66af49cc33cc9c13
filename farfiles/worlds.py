"""A world of houses: askers, heads and piece houses, and the letters between them."""

from farfiles.askers import Asker
from farfiles.boards import HEADS, Board
from farfiles.deeds import is_asked_deed
from farfiles.errors import Busy, Down, IsGone, NoAsker, NoDeed, NoGroups, NoHouse, NoLetter
from farfiles.errors import NoMany, NoQuestion, NoUsers, Up
from farfiles.heads import Head
from farfiles.keepers import Keeper
from farfiles.ledgers import Ledger
from farfiles.posts import Post
from farfiles.sizes import COPIES, PIECES
from farfiles.wholes import is_from_to, is_whole
from farfiles.words import is_groups, is_users

MOST_PIECES = 5
MOST_COPIES = 3
MOST_TICKS = 200

# So long a calm goes on at most.
CALM_TICKS = 300


class World:
    """Houses that fall, and letters that go astray, told as one tree."""

    def __init__(self, users, *, groups=(), pieces=PIECES, copies=COPIES):
        if not is_users(users):
            raise NoUsers(users)
        if not is_groups(groups):
            raise NoGroups(groups)
        if not is_from_to(pieces, 1, MOST_PIECES):
            raise NoMany(pieces)
        if not is_from_to(copies, 1, min(pieces, MOST_COPIES)):
            raise NoMany(copies)
        self.board = Board(users, groups, pieces, copies)
        self.post = Post()
        self.ledger = Ledger()
        self.askers = {}
        for name in self.board.users:
            self.askers[name] = Asker(name, self.board, self.post, self.ledger)
        self.heads = [Head(name, self.board, self.post, self.ledger) for name in HEADS]
        self.keepers = {}
        for name in self.board.keepers:
            self.keepers[name] = Keeper(name, self.board, self.post)
        self.houses = {**self.askers, HEADS[0]: self.heads[0], HEADS[1]: self.heads[1], **self.keepers}
        self.lying = {}
        self.in_step = {name: True for name in HEADS}
        self.era = 0
        # The pieces that were seen to have copies enough, by the head of this name and
        # era, as long as no house is lost, bent or emptied.
        self.well = {}
        self.well_by = (HEADS[0], 0)

    def ask(self, asker, deed):
        """Ask an asker this deed: the number of the question."""
        if not isinstance(asker, str) or asker not in self.askers:
            raise NoAsker(asker)
        if not is_asked_deed(deed):
            raise NoDeed(deed)
        if asker in self.lying:
            raise Down(asker)
        if self.askers[asker].pending is not None:
            raise Busy(asker)
        question = len(self.ledger.asked)
        self.ledger.asked.append((asker, deed))
        self.askers[asker].put_question(question, deed)
        return question

    def answer(self, question):
        """(ANSWER, AT, AGE) of the question, None as long as none is told."""
        if not is_from_to(question, 0, len(self.ledger.asked) - 1):
            raise NoQuestion(question)
        if question not in self.ledger.answers:
            return None
        answer, place, age, _ = self.ledger.answers[question]
        return (answer, place, age)

    def letters(self):
        """The letters that wait: growing (NUMBER, FROM, TO)."""
        waiting = self.post.waiting
        return tuple([(number, row[0], row[1]) for number, row in waiting.items()])

    def carry(self, number):
        """The letter comes to its house."""
        self._check_letter(number)
        source, target, text = self.post.taken(number)
        if self._is_up(target):
            self.houses[target].take(source, text)

    def lose(self, number):
        """The letter waits no more."""
        self._check_letter(number)
        self.post.taken(number)

    def double(self, number):
        """Another letter like this one waits, too."""
        self._check_letter(number)
        self.post.double(number)

    def tick(self, many=1):
        """So many ticks go on."""
        if not is_from_to(many, 1, MOST_TICKS):
            raise NoMany(many)
        for _ in range(many):
            self._pass_tick()

    def now(self):
        """The tick."""
        return self.board.clock

    def fall(self, house):
        """The house is down from now on, and forgets what it doesn't keep for good."""
        self._check_house(house)
        if house in self.lying:
            raise Down(house)
        self.lying[house] = True
        if house in self.in_step:
            self.in_step[house] = False
        self.houses[house].forget()

    def rise(self, house):
        """The house is up again."""
        self._check_house(house)
        if house not in self.lying:
            raise Up(house)
        del self.lying[house]

    def gone(self, house):
        """The head or piece house is lost for ever."""
        self._check_house(house)
        if house in self.askers:
            raise NoHouse(house)
        self.board.away[house] = True
        self.well = {}

    def bend(self, house):
        """All cells that the piece house keeps are one more from now on."""
        self._check_keeper(house)
        self.keepers[house].bend_all()
        self.well = {}

    def empty(self, house):
        """The piece house gets nothing new from now on, and what it has goes to others."""
        self._check_keeper(house)
        self.board.leaving[house] = True
        self.well = {}

    def is_up(self, house):
        """Whether the house is up."""
        if not self._is_house(house):
            raise NoHouse(house)
        return self._is_up(house)

    def alone(self):
        """Let the head that is up go on alone, if that can be: whether it does."""
        up = self._heads_up()
        if len(up) != 1:
            return False
        head = up[0]
        if head.single:
            return True
        if not self.in_step[head.name]:
            return False
        self.era += 1
        head.go_alone(self.era)
        return True

    def calm(self):
        """Carry letters and let ticks go on till nothing is left: whether all is well."""
        self._carry_all()
        passed = 0
        is_left = self._is_something_left()
        while is_left and passed < CALM_TICKS:
            self._pass_tick()
            self._carry_all()
            passed += 1
            is_left = self._is_something_left()
        if is_left or not self._are_all_needed_up():
            return False
        self._become_calm()
        return True

    def order(self):
        """The deeds that are settled: growing (AT, TICK, ASKER, QUESTION, DEED)."""
        return tuple(self.ledger.rows)

    def told(self):
        """What was told: growing (QUESTION, ASKER, DEED, ANSWER, AT, AGE, TICK)."""
        return tuple(self.ledger.told_rows())

    def _is_house(self, house):
        return isinstance(house, str) and house in self.houses

    def _is_up(self, house):
        return house not in self.lying and house not in self.board.away

    def _check_house(self, house):
        if not self._is_house(house):
            raise NoHouse(house)
        if house in self.board.away:
            raise IsGone(house)

    def _check_keeper(self, house):
        if not self._is_house(house) or house not in self.keepers:
            raise NoHouse(house)
        if house in self.board.away:
            raise IsGone(house)

    def _check_letter(self, number):
        if not is_whole(number) or number not in self.post.waiting:
            raise NoLetter(number)

    def _heads_up(self):
        return [head for head in self.heads if self._is_up(head.name)]

    def _pass_tick(self):
        board = self.board
        board.clock += 1
        for name, house in self.houses.items():
            if self._is_up(name):
                house.pass_tick()

    def _carry_all(self):
        while self.post.waiting:
            for number in list(self.post.waiting):
                self.carry(number)

    def _is_something_left(self):
        if any([asker.pending is not None for asker in self.askers.values()]):
            return True
        leader = self._leader()
        return self._are_apart(leader) or self._wants_copies(leader)

    def _leader(self):
        """The head that goes on alone, or else one that is up, if any is."""
        leaders = [head for head in self.heads if head.single]
        leaders.extend(self._heads_up())
        return leaders[0] if leaders else self.heads[0]

    def _are_apart(self, leader):
        """Whether both heads are up, and one lacks what the other one has."""
        up = self._heads_up()
        if len(up) < 2:
            return False
        return up[0].log != up[1].log or leader.settled < len(leader.log)

    def _wants_copies(self, head):
        """Whether cells that aren't lost have too few copies, or unknown ones."""
        if self.well_by != (head.name, head.era):
            self.well_by = (head.name, head.era)
            self.well = {}
        for piece in head.state.live_pieces():
            if piece not in self.well:
                if self._wants_copy(piece, head.state.had[piece]):
                    return True
                self.well[piece] = True
        return False

    def _wants_copy(self, piece, known):
        """Whether the piece isn't lost, but too few houses, known to have it, have it right."""
        right = [name for name in self.board.left() if self.keepers[name].is_right(piece)]
        good = [name for name in self.board.staying() if name in right and name in known]
        return len(right) > 0 and len(good) < self.board.wanted()

    def _are_all_needed_up(self):
        if any([name in self.lying for name in self.board.left()]):
            return False
        up = self._heads_up()
        return len(up) == 2 or any([head.single for head in up])

    def _become_calm(self):
        """Both heads, if up, are in step from now on, and none goes on alone."""
        up = self._heads_up()
        for head in up:
            head.rest()
        if len(up) < 2:
            return
        if any([head.single for head in up]):
            self.era += 1
            for head in up:
                head.be_two(self.era)
        for head in up:
            self.in_step[head.name] = True
