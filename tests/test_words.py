"""Promise 4: what words, paths, rights and groups are, told of things of any kind."""

import copy
import inspect
import itertools
import string
import unittest

from farfiles import words
from farfiles.words import is_groups, is_path, is_rights, is_word

QUESTIONS = (is_word, is_path, is_rights, is_groups)


class Odd:
    """Equal to everything, and a member of nothing."""

    def __eq__(self, other):
        return True

    __hash__ = None


def nested(deep):
    thing = "abc"
    for _ in range(deep):
        thing = (thing,)
    return thing


# None of these is a WORD, a PATH, RIGHTS or GROUPS.
WRONG_OF_ANY_KIND = (
    None,
    True,
    False,
    0,
    1,
    -1,
    10 ** 59,
    b"abc",
    b"",
    [],
    ["abc"],
    ["rw", "r", "r"],
    [("staff", ("ann",))],
    {},
    {"abc": 1},
    {"rw": 1, "r": 2, "w": 3},
    {("staff", ("ann",)): 1},
    set(),
    {"abc"},
    frozenset({"abc"}),
    range(3),
    object(),
    Odd(),
    len,
    str,
    (None,),
    (True,),
    (0,),
    (b"abc",),
    ([],),
    ({},),
    ((),),
    (("abc",),),
    (None, None, None),
    (True, False, True),
    (1, 2, 3),
    ([], [], []),
    ({}, {}, {}),
    ((), (), ()),
    (Odd(), Odd(), Odd()),
    nested(2),
    nested(9),
)


def some_groups(many, users=()):
    return tuple((letter, users) for letter in string.ascii_lowercase[:many])


class Told(unittest.TestCase):
    """What all four questions are asked in the same way."""

    def check(self, question, thing, expected):
        with self.subTest(question=question.__name__, thing=thing):
            self.assertIs(question(thing), expected)
            self.assertIs(question(thing=thing), expected)


class AnyKindTest(Told):
    def test_wrong_things_of_any_kind(self):
        for question in QUESTIONS:
            for thing in WRONG_OF_ANY_KIND:
                self.check(question, thing, False)

    def test_what_is_handed_in_stays_as_it_was(self):
        things = (["rw", "r", "r"], {"abc": [1]}, ("a", ["b"]), (("a", ["b"]),))
        before = copy.deepcopy(things)
        for question in QUESTIONS:
            for thing in things:
                self.check(question, thing, False)
        self.assertEqual(things, before)

    def test_the_interface(self):
        for question in QUESTIONS:
            with self.subTest(question=question.__name__):
                self.assertEqual(str(inspect.signature(question)), "(thing)")
                self.assertEqual(question.__module__, "farfiles.words")
                self.assertTrue(inspect.isfunction(question))
                self.assertIs(getattr(words, question.__name__), question)


class WordTest(Told):
    def test_words(self):
        for thing in ("root", "notes", "abc", "az", "aaa"):
            self.check(is_word, thing, True)

    def test_each_small_letter(self):
        for letter in string.ascii_lowercase:
            self.check(is_word, letter, True)
            self.check(is_word, "abc" + letter, True)

    def test_one_to_eight_letters(self):
        for many in range(12):
            self.check(is_word, "z" * many, 1 <= many <= 8)
        self.check(is_word, "abcdefgh", True)
        self.check(is_word, "abcdefghi", False)
        self.check(is_word, "a" * 600, False)

    def test_other_signs(self):
        for code in range(128):
            sign = chr(code)
            self.check(is_word, sign, sign in string.ascii_lowercase)
            for text in ("ab" + sign, sign + "ab", "a" + sign + "b"):
                self.check(is_word, text, sign in string.ascii_lowercase)

    def test_signs_beside_the_small_letters(self):
        for thing in ("`", "{", "`a", "a{", "A", "Z", "abC", "a b", " a", "a ", "a1"):
            self.check(is_word, thing, False)

    def test_line_ends(self):
        for thing in ("\n", "abc\n", "\nabc", "a\nb"):
            self.check(is_word, thing, False)

    def test_small_letters_of_other_scripts(self):
        for thing in ("\u00e9", "stra\u00dfe", "\u03b1", "\uff41"):
            self.check(is_word, thing, False)

    def test_tuples_are_no_words(self):
        for thing in ((), ("abc",), ("a", "b"), ("rw", "r", "r")):
            self.check(is_word, thing, False)


class PathTest(Told):
    def test_none_to_six_names(self):
        for many in range(10):
            self.check(is_path, ("name",) * many, many <= 6)
        self.check(is_path, (), True)
        self.check(is_path, ("a", "b", "c", "d", "e", "f"), True)
        self.check(is_path, ("a", "b", "c", "d", "e", "f", "g"), False)

    def test_names_may_fall_and_stand_twice(self):
        for thing in (("b", "a"), ("a", "a"), ("home", "ann", "home")):
            self.check(is_path, thing, True)

    def test_a_name_that_is_no_word(self):
        for name in ("", "abcdefghi", "A", "a b", "a/b", ".", "..", "a1", None, True, 1, b"a"):
            self.check(is_path, (name,), False)
            self.check(is_path, (name, "a", "b"), False)
            self.check(is_path, ("a", name, "b"), False)
            self.check(is_path, ("a", "b", "c", "d", "e", name), False)

    def test_names_of_eight_letters(self):
        self.check(is_path, ("abcdefgh",) * 6, True)

    def test_tuples_in_tuples(self):
        for name in ((), ("a",), ["a"], {"a": 1}):
            self.check(is_path, ("a", name), False)

    def test_texts_and_lists_are_no_paths(self):
        for thing in ("", "a", "abc", "a/b", [], ["a"], ["a", "b"]):
            self.check(is_path, thing, False)


class RightsTest(Told):
    def test_each_of_the_four_texts_at_each_place(self):
        texts = ("", "r", "w", "rw")
        for thing in itertools.product(texts, repeat=3):
            self.check(is_rights, thing, True)

    def test_others_like_them(self):
        others = ("wr", "rr", "ww", "rwr", "R", "W", "RW", " ", " r", "r ", "x", "rx", "r\n")
        for text in (*others, None, True, False, 0, 1, b"r", ("r",), (), ["r"], {}, Odd()):
            self.check(is_rights, (text, "r", "r"), False)
            self.check(is_rights, ("r", text, "r"), False)
            self.check(is_rights, ("r", "r", text), False)

    def test_three_texts(self):
        for many in range(6):
            self.check(is_rights, ("rw",) * many, many == 3)

    def test_texts_and_lists_are_no_rights(self):
        for thing in ("", "rwr", "rw", ["rw", "r", "r"], [], {"r": "r"}):
            self.check(is_rights, thing, False)


class GroupsTest(Told):
    def test_groups(self):
        self.check(is_groups, (("staff", ("ann", "bob")),), True)
        self.check(is_groups, (("art", ("eve",)), ("staff", ("ann", "bob", "eve"))), True)
        self.check(is_groups, (("root", ("root",)),), True)

    def test_none_to_eight_groups(self):
        for many in range(12):
            self.check(is_groups, some_groups(many), many <= 8)
            self.check(is_groups, some_groups(many, ("ann", "bob")), many <= 8)

    def test_groups_that_do_not_grow(self):
        self.check(is_groups, (("b", ()), ("a", ())), False)
        self.check(is_groups, (("a", ()), ("c", ()), ("b", ())), False)
        self.check(is_groups, (("c", ()), ("a", ()), ("b", ())), False)
        self.check(is_groups, (("ab", ()), ("a", ())), False)
        self.check(is_groups, (("a", ()), ("ab", ()), ("b", ())), True)

    def test_a_group_twice(self):
        self.check(is_groups, (("a", ()), ("a", ())), False)
        self.check(is_groups, (("a", ("ann",)), ("a", ("bob",))), False)
        self.check(is_groups, (("a", ()), ("b", ("ann",)), ("b", ("bob",))), False)

    def test_users_that_do_not_grow(self):
        self.check(is_groups, (("a", ("bob", "ann")),), False)
        self.check(is_groups, (("a", ("ann", "ann")),), False)
        self.check(is_groups, (("a", ("ann", "eve", "bob")),), False)
        self.check(is_groups, (("a", ("ann",)), ("b", ("bob", "ann"))), False)

    def test_a_user_in_several_groups(self):
        self.check(is_groups, (("a", ("ann", "bob")), ("b", ("ann", "bob"))), True)

    def test_empty_users(self):
        self.check(is_groups, (("a", ()),), True)
        self.check(is_groups, (("a", ()), ("b", ("ann",))), True)

    def test_many_users(self):
        users = tuple(sorted(a + b for a in string.ascii_lowercase for b in "abcde"))
        self.check(is_groups, (("a", users),), True)

    def test_names_that_are_no_words(self):
        for name in ("", "abcdefghi", "A", "a1", "a b", None, True, 1, b"a", (), ("a",), ["a"], {}):
            self.check(is_groups, ((name, ()),), False)
            self.check(is_groups, ((name, ("ann",)),), False)
            self.check(is_groups, (("a", (name,)),), False)
            self.check(is_groups, (("a", ("ann", name)),), False)
            self.check(is_groups, (("a", (name, "ann")),), False)
            self.check(is_groups, (("a", ()), (name, ())), False)

    def test_names_of_eight_letters(self):
        self.check(is_groups, (("abcdefgh", ("abcdefgh",)),), True)

    def test_rows_of_another_form(self):
        rows = ((), ("a",), ("a", (), ()), ("a", "ann"), ("a", ""), ("a", ["ann"]), ("a", []))
        more = (["a", ()], "ab", "a", None, True, 1, {"a": ()}, ("a", None), ("a", {"ann": 1}))
        for row in rows + more:
            self.check(is_groups, (row,), False)
            self.check(is_groups, (("a", ()), row), False)
            self.check(is_groups, (row, ("z", ())), False)

    def test_one_row_is_no_groups(self):
        self.check(is_groups, ("staff", ("ann",)), False)

    def test_texts_lists_and_dicts_are_no_groups(self):
        for thing in ("", "ab", [], [("a", ())], {}, {"a": ()}, {("a", ()): 1}):
            self.check(is_groups, thing, False)


if __name__ == "__main__":
    unittest.main()
