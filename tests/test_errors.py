"""The refusals: families, `called` and fields."""

import copy
import unittest

from calmcuts import errors
from calmcuts.errors import CutError, Missing, NothingLeft

PLAIN = ["BadPart", "BadBox", "BadWeight", "BadSide", "BadSizes", "BadBound", "BadName", "BadPlace", "BadDeed"]
WITH_FIELD = [("BadText", "at", 3), ("Taken", "name", "ab"), ("Full", "what", "names"),
              ("NotEmpty", "name", "nest"), ("Within", "name", "nest")]
MISSING = ["NoName", "NoNest", "Bare"]


class Families(unittest.TestCase):
    def test_cut_errors(self):
        self.assertEqual(CutError.__bases__, (ValueError,))
        for name in PLAIN + [name for name, _, _ in WITH_FIELD]:
            with self.subTest(name):
                self.assertEqual(getattr(errors, name).__bases__, (CutError,))

    def test_missing(self):
        self.assertEqual(Missing.__bases__, (LookupError,))
        for name in MISSING:
            with self.subTest(name):
                self.assertEqual(getattr(errors, name).__bases__, (Missing,))

    def test_nothing_left(self):
        self.assertEqual(NothingLeft.__bases__, (IndexError,))

    def test_instances(self):
        self.assertIsInstance(errors.BadText(0), ValueError)
        self.assertIsInstance(errors.Bare("a"), LookupError)
        self.assertIsInstance(errors.NothingLeft(), IndexError)
        self.assertNotIsInstance(errors.NoName("a"), CutError)
        self.assertNotIsInstance(errors.NothingLeft(), Missing)

    def test_caught_by_each_family(self):
        for family in (errors.NoNest, Missing, LookupError):
            with self.assertRaises(family):
                raise errors.NoNest("a")


class Values(unittest.TestCase):
    def test_plain(self):
        for name in ["CutError"] + PLAIN + ["NothingLeft"]:
            with self.subTest(name):
                refusal = getattr(errors, name)()
                self.assertEqual(vars(refusal), {"called": name})

    def test_with_field(self):
        for name, field, value in WITH_FIELD:
            with self.subTest(name):
                refusal = getattr(errors, name)(value)
                self.assertEqual(vars(refusal), {"called": name, field: value})

    def test_with_field_by_its_name(self):
        for name, field, value in WITH_FIELD + [(name, "name", "x") for name in MISSING]:
            with self.subTest(name):
                self.assertEqual(getattr(getattr(errors, name)(**{field: value}), field), value)

    def test_missing(self):
        for name in ["Missing"] + MISSING:
            with self.subTest(name):
                for value in ("", "ab", None, 7, (1, 2)):
                    refusal = getattr(errors, name)(value)
                    self.assertEqual(vars(refusal), {"called": name, "name": value})

    def test_fields_are_needed(self):
        for name in [name for name, _, _ in WITH_FIELD] + ["Missing"] + MISSING:
            with self.subTest(name), self.assertRaises(TypeError):
                getattr(errors, name)()

    def test_objects_stand_alone(self):
        one, other = errors.Taken("one"), errors.Taken("other")
        self.assertEqual((one.name, other.name), ("one", "other"))

    def test_copies(self):
        for refusal in (errors.BadPart(), errors.BadText(2), errors.NoName("a"), NothingLeft()):
            with self.subTest(refusal.called):
                self.assertEqual(vars(copy.copy(refusal)), vars(refusal))


if __name__ == "__main__":
    unittest.main()
