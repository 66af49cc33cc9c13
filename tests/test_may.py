"""Promise 4: whether a USER may do a sign, and the refusals of that."""

import inspect
import itertools
import unittest

from farfiles.errors import FarError, NoGroups, NoRights, NoSign, NoWord
from farfiles.words import may

GROUPS = (
    ("art", ("eve",)),
    ("empty", ()),
    ("staff", ("ann", "bob", "root")),
)
TEXTS = ("", "r", "w", "rw")
ALL_RIGHTS = tuple(itertools.product(TEXTS, repeat=3))

# One thing amiss for each argument, in their order, with the refusal's class and field.
AMISS = (
    ("groups", [], NoGroups, "groups"),
    ("user", "Ann", NoWord, "word"),
    ("sign", "rw", NoSign, "sign"),
    ("owner", "", NoWord, "word"),
    ("group", None, NoWord, "word"),
    ("rights", ("rw", "r"), NoRights, "rights"),
)

GOOD = {
    "groups": GROUPS,
    "user": "bob",
    "sign": "r",
    "owner": "ann",
    "group": "staff",
    "rights": ("rw", "r", ""),
}


class MayTest(unittest.TestCase):
    def check(self, user, owner, group, place):
        """The user goes by the text at this place alone, whatever the others are."""
        for rights in ALL_RIGHTS:
            for sign in ("r", "w"):
                with self.subTest(user=user, group=group, rights=rights, sign=sign):
                    told = may(GROUPS, user, sign, owner=owner, group=group, rights=rights)
                    self.assertIs(told, sign in rights[place])

    def test_root_may_all(self):
        for owner, group in (("ann", "staff"), ("ann", "art"), ("root", "root")):
            for rights in ALL_RIGHTS:
                for sign in ("r", "w"):
                    with self.subTest(owner=owner, rights=rights, sign=sign):
                        told = may(GROUPS, "root", sign, owner=owner, group=group, rights=rights)
                        self.assertIs(told, True)

    def test_the_owner_goes_by_the_first_text(self):
        self.check("eve", "eve", "staff", 0)

    def test_an_owner_who_is_a_member_goes_by_the_first_text(self):
        self.check("ann", "ann", "staff", 0)

    def test_a_member_goes_by_the_second_text(self):
        self.check("bob", "ann", "staff", 1)
        self.check("eve", "ann", "art", 1)

    def test_others_go_by_the_third_text(self):
        self.check("eve", "ann", "staff", 2)
        self.check("zed", "ann", "art", 2)

    def test_a_member_of_another_group_goes_by_the_third_text(self):
        self.check("bob", "ann", "art", 2)

    def test_a_group_without_users(self):
        self.check("bob", "ann", "empty", 2)
        self.check("ann", "ann", "empty", 0)

    def test_a_group_that_groups_lacks(self):
        self.check("bob", "ann", "nobody", 2)
        self.check("ann", "ann", "nobody", 0)
        # A user's own name isn't a group of that user.
        self.check("bob", "ann", "bob", 2)

    def test_without_groups(self):
        for rights in ALL_RIGHTS:
            told = may((), "bob", "r", owner="ann", group="staff", rights=rights)
            self.assertIs(told, "r" in rights[2])

    def test_a_member_at_each_place_of_users(self):
        groups = (("staff", ("ann", "bob", "eve")),)
        for user in ("ann", "bob", "eve"):
            with self.subTest(user=user):
                told = may(groups, user, "w", owner="zed", group="staff", rights=("", "w", ""))
                self.assertIs(told, True)

    def test_users_and_groups_are_whole_names(self):
        for user in ("an", "anna", "nn"):
            with self.subTest(user=user):
                told = may(GROUPS, user, "r", owner="zed", group="staff", rights=("", "r", ""))
                self.assertIs(told, False)
        told = may(GROUPS, "ann", "r", owner="zed", group="staf", rights=("", "r", ""))
        self.assertIs(told, False)

    def test_what_is_handed_in_stays_as_it_was(self):
        rights = ["rw", "r", ""]
        with self.assertRaises(NoRights):
            may(GROUPS, "bob", "r", owner="ann", group="staff", rights=rights)
        self.assertEqual(rights, ["rw", "r", ""])


class ArgumentsTest(unittest.TestCase):
    def test_the_interface(self):
        wanted = "(groups, user, sign, *, owner, group, rights)"
        self.assertEqual(str(inspect.signature(may)), wanted)
        self.assertEqual(may.__module__, "farfiles.words")

    def test_names_behind_the_star_in_any_order(self):
        for names in itertools.permutations(("owner", "group", "rights")):
            behind = {name: GOOD[name] for name in names}
            with self.subTest(names=names):
                self.assertIs(may(GROUPS, "bob", "r", **behind), True)
                self.assertIs(may(GROUPS, "bob", "w", **behind), False)

    def test_all_by_name_in_any_order(self):
        for names in itertools.permutations(GOOD):
            self.assertIs(may(**{name: GOOD[name] for name in names}), True)

    def test_names_behind_the_star_by_name_alone(self):
        with self.assertRaises(TypeError):
            may(GROUPS, "bob", "r", "ann", "staff", ("rw", "r", ""))

    def test_none_may_be_left_out(self):
        for name in GOOD:
            left = {key: value for key, value in GOOD.items() if key != name}
            with self.subTest(name=name), self.assertRaises(TypeError):
                may(**left)


class RefusalsTest(unittest.TestCase):
    def check(self, arguments, refusal, field, thing):
        with self.subTest(arguments=arguments):
            with self.assertRaises(FarError) as caught:
                may(**arguments)
            self.assertIs(type(caught.exception), refusal)
            self.assertIs(getattr(caught.exception, field), thing)

    def test_one_amiss(self):
        for name, thing, refusal, field in AMISS:
            self.check({**GOOD, name: thing}, refusal, field, thing)

    def test_root_is_refused_too(self):
        for name, thing, refusal, field in AMISS:
            if name != "user":
                self.check({**GOOD, "user": "root", name: thing}, refusal, field, thing)

    def test_several_amiss_the_first_from_the_left_is_told(self):
        for many in range(2, len(AMISS) + 1):
            for rows in itertools.combinations(AMISS, many):
                # Handed in from the right: the order of the call is not what counts.
                arguments = dict(GOOD)
                for name, thing, _, _ in reversed(rows):
                    del arguments[name]
                    arguments[name] = thing
                _, thing, refusal, field = rows[0]
                self.check(arguments, refusal, field, thing)

    def test_several_words_amiss(self):
        words = {**GOOD, "user": "USER", "owner": "OWNER", "group": "GROUP"}
        self.check(words, NoWord, "word", words["user"])
        words["user"] = "bob"
        self.check(words, NoWord, "word", words["owner"])
        words["owner"] = "ann"
        self.check(words, NoWord, "word", words["group"])

    def test_signs_amiss(self):
        things = ("", "rw", "wr", "R", "x", "r ", b"r", None, True, 0, ("r",), ["r"], {"r": 1})
        for thing in things:
            self.check({**GOOD, "sign": thing}, NoSign, "sign", thing)

    def test_words_amiss(self):
        for thing in ("", "abcdefghi", "Ann", "a1", None, True, 0, b"ann", ("ann",), ["ann"], {}):
            for name in ("user", "owner", "group"):
                self.check({**GOOD, name: thing}, NoWord, "word", thing)

    def test_groups_amiss(self):
        things = (
            None, True, 0, "", "staff", [], {}, {"staff": ("ann",)},
            (("staff", ["ann"]),), [("staff", ("ann",))], (("b", ()), ("a", ())),
            (("a", ()), ("a", ("bob",))), (("staff", ("bob", "ann")),),
            tuple((letter, ()) for letter in "abcdefghi"),
        )
        for thing in things:
            self.check({**GOOD, "groups": thing}, NoGroups, "groups", thing)

    def test_rights_amiss(self):
        things = (
            None, True, 0, "", "rw", "rwr", (), ("rw", "r"), ("rw", "r", "", ""),
            ["rw", "r", ""], {"rw": 1}, ("rw", "r", "wr"), ("rw", None, ""), (("r",), "r", "r"),
        )
        for thing in things:
            self.check({**GOOD, "rights": thing}, NoRights, "rights", thing)


if __name__ == "__main__":
    unittest.main()
