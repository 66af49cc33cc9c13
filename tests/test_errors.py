"""The interface's row `errors`: both bases, every refusal under its own, its field."""

import inspect
import unittest

from farfiles import errors
from farfiles.errors import FarError, HouseError

FAR = {
    "NoSign": "sign",
    "NoWord": "word",
    "NoRights": "rights",
    "NoGroups": "groups",
    "NoParts": "parts",
    "NoPlace": "place",
    "NoPiece": "piece",
    "NoTick": "when",
    "NoDeed": "deed",
    "NoUsers": "users",
    "NoMany": "many",
    "NoOrder": "place",
    "NoRows": "place",
    "NoRow": "row",
}

HOUSE = {
    "NoAsker": "asker",
    "NoHouse": "house",
    "NoLetter": "number",
    "NoQuestion": "question",
    "Busy": "asker",
    "Down": "house",
    "Up": "house",
    "IsGone": "house",
}

ALL = {**FAR, **HOUSE}


def refusals():
    return [(name, getattr(errors, name), field) for name, field in ALL.items()]


class BasesTest(unittest.TestCase):
    def test_the_bases_stand_under_pythons_own(self):
        self.assertTrue(issubclass(FarError, ValueError))
        self.assertTrue(issubclass(HouseError, LookupError))

    def test_neither_base_stands_under_the_other(self):
        self.assertFalse(issubclass(FarError, (HouseError, LookupError)))
        self.assertFalse(issubclass(HouseError, (FarError, ValueError)))

    def test_refusals_of_far_error(self):
        for name in FAR:
            with self.subTest(name=name):
                self.assertTrue(issubclass(getattr(errors, name), FarError))
                self.assertFalse(issubclass(getattr(errors, name), LookupError))

    def test_refusals_of_house_error(self):
        for name in HOUSE:
            with self.subTest(name=name):
                self.assertTrue(issubclass(getattr(errors, name), HouseError))
                self.assertFalse(issubclass(getattr(errors, name), ValueError))

    def test_no_refusal_stands_under_another(self):
        for name, refusal, _ in refusals():
            for other_name, other, _ in refusals():
                if name != other_name:
                    with self.subTest(name=name, other=other_name):
                        self.assertFalse(issubclass(refusal, other))

    def test_no_class_stands_between_a_refusal_and_its_base(self):
        for name, refusal, _ in refusals():
            with self.subTest(name=name):
                base = FarError if name in FAR else HouseError
                self.assertEqual(refusal.__bases__, (base,))


class InterfaceTest(unittest.TestCase):
    def test_every_class_is_listed_and_defined_here(self):
        found = {
            name: thing.__module__
            for name, thing in vars(errors).items()
            if inspect.isclass(thing)
        }
        names = [*ALL, "FarError", "HouseError"]
        self.assertEqual(found, {name: "farfiles.errors" for name in names})


class FieldsTest(unittest.TestCase):
    def test_the_field_is_what_was_handed_in(self):
        for name, refusal, field in refusals():
            with self.subTest(name=name):
                thing = ["any", ("thing", {1: None})]
                self.assertIs(getattr(refusal(thing), field), thing)
                self.assertEqual(thing, ["any", ("thing", {1: None})])

    def test_none_and_truths_are_kept_too(self):
        for name, refusal, field in refusals():
            for thing in (None, True, False, 0, "", ()):
                with self.subTest(name=name, thing=thing):
                    self.assertIs(getattr(refusal(thing), field), thing)

    def test_by_name(self):
        for name, refusal, field in refusals():
            with self.subTest(name=name):
                self.assertEqual(getattr(refusal(**{field: "thing"}), field), "thing")

    def test_each_object_has_its_own_field(self):
        for name, refusal, field in refusals():
            with self.subTest(name=name):
                first, second = refusal("first"), refusal("second")
                self.assertEqual(getattr(first, field), "first")
                self.assertEqual(getattr(second, field), "second")

    def test_no_other_field_is_set(self):
        for name, refusal, field in refusals():
            with self.subTest(name=name):
                self.assertEqual(vars(refusal(1)), {field: 1})

    def test_the_field_must_be_handed_in(self):
        for name, refusal, _ in refusals():
            with self.subTest(name=name), self.assertRaises(TypeError):
                refusal()

    def test_raised_and_caught_by_its_base(self):
        for name, refusal, field in refusals():
            with self.subTest(name=name):
                base = FarError if name in FAR else HouseError
                with self.assertRaises(base) as caught:
                    raise refusal((1, 2))
                self.assertEqual(getattr(caught.exception, field), (1, 2))


if __name__ == "__main__":
    unittest.main()
