"""The refusals, each with a field that keeps what was handed in."""


class FarError(ValueError):
    """The base of the refusals of what isn't as it should be."""


class HouseError(LookupError):
    """The base of the refusals that the houses of a World tell."""


class NoSign(FarError):
    """What is neither sign, r nor w."""

    def __init__(self, sign):
        super().__init__("a sign is r or w")
        self.sign = sign


class NoWord(FarError):
    """What is no WORD."""

    def __init__(self, word):
        super().__init__("a word is one to eight small letters")
        self.word = word


class NoRights(FarError):
    """What are no RIGHTS."""

    def __init__(self, rights):
        super().__init__("rights are a tuple of three texts, each empty, r, w or rw")
        self.rights = rights


class NoGroups(FarError):
    """What are no GROUPS."""

    def __init__(self, groups):
        super().__init__("groups are a growing tuple of at most eight groups with their users")
        self.groups = groups


class NoParts(FarError):
    """What are no PARTS."""

    def __init__(self, parts):
        super().__init__("parts are a tuple of pieces, each with a first cell and how many")
        self.parts = parts


class NoPlace(FarError):
    """What is no place where one is asked for."""

    def __init__(self, place):
        super().__init__("a place is a whole number within what is there")
        self.place = place


class NoPiece(FarError):
    """A piece that isn't there, whole or some cells of it."""

    def __init__(self, piece):
        super().__init__("the cells of this piece aren't there")
        self.piece = piece


class NoTick(FarError):
    """What is no tick, or one below that of the deed ahead."""

    def __init__(self, when):
        super().__init__("a tick is a whole number that never falls")
        self.when = when


class NoDeed(FarError):
    """What is no deed."""

    def __init__(self, deed):
        super().__init__("a deed is a tuple of its word and what belongs to it")
        self.deed = deed


class NoUsers(FarError):
    """What are no USERS of a World."""

    def __init__(self, users):
        super().__init__("users are a tuple of one to four words")
        self.users = users


class NoMany(FarError):
    """A number of things that can't be so many."""

    def __init__(self, many):
        super().__init__("there can't be so many")
        self.many = many


class NoOrder(FarError):
    """The first place of an order that hasn't its form, None of no tuple."""

    def __init__(self, place):
        super().__init__("an order is a tuple of settled deeds")
        self.place = place


class NoRows(FarError):
    """The first place of rows told that hasn't its form, None of no tuple."""

    def __init__(self, place):
        super().__init__("rows are a tuple of what was told")
        self.place = place


class NoRow(FarError):
    """What is no row of the desk."""

    def __init__(self, row):
        super().__init__("a row is words with one blank between")
        self.row = row


class NoAsker(HouseError):
    """Who is no asker of the World."""

    def __init__(self, asker):
        super().__init__("there is no such asker")
        self.asker = asker


class NoHouse(HouseError):
    """What is no house of the World, or not of the kind asked for."""

    def __init__(self, house):
        super().__init__("there is no such house")
        self.house = house


class NoLetter(HouseError):
    """The number of no waiting letter."""

    def __init__(self, number):
        super().__init__("no letter of this number waits")
        self.number = number


class NoQuestion(HouseError):
    """The number of no question asked."""

    def __init__(self, question):
        super().__init__("no question has this number")
        self.question = question


class Busy(HouseError):
    """An asker that has a question open."""

    def __init__(self, asker):
        super().__init__("the asker has a question open")
        self.asker = asker


class Down(HouseError):
    """A house that is down."""

    def __init__(self, house):
        super().__init__("the house is down")
        self.house = house


class Up(HouseError):
    """A house that is up."""

    def __init__(self, house):
        super().__init__("the house is up")
        self.house = house


class IsGone(HouseError):
    """A house that is lost for ever."""

    def __init__(self, house):
        super().__init__("the house is gone")
        self.house = house
