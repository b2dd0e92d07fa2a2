"""The interface of onepurse.errors: which class stands under which, and the fields of each."""

import inspect
import unittest

from onepurse import errors

UNDER_PURSE_ERROR = (
    "BadMark", "BadLetters", "BadRoom", "BadArrow", "BadWord", "BadSize", "BadPattern", "BadTable", "BadTree",
    "BadText", "BadName", "BadDeed", "BadPage", "Taken", "Full", "Unlike", "NotDear", "InUse", "TooWide",
)
UNDER_MISSING = ("NoArrow", "NoName", "NoTraveller")
FIELDS = {"BadText": "at", "BadPage": "row", "TooWide": "most"}


def all_with_words():
    return UNDER_PURSE_ERROR + UNDER_MISSING + ("NothingLeft",)


def made(name):
    kind = getattr(errors, name)
    return kind(7) if name in FIELDS else kind()


class Classes(unittest.TestCase):
    def test_base_classes(self):
        self.assertEqual(errors.PurseError.__bases__, (ValueError,))
        self.assertEqual(errors.Missing.__bases__, (LookupError,))
        self.assertEqual(errors.NothingLeft.__bases__, (IndexError,))

    def test_straight_under(self):
        for name in UNDER_PURSE_ERROR:
            self.assertEqual(getattr(errors, name).__bases__, (errors.PurseError,), name)
        for name in UNDER_MISSING:
            self.assertEqual(getattr(errors, name).__bases__, (errors.Missing,), name)

    def test_there_are_no_others(self):
        found = {name for name, thing in vars(errors).items() if inspect.isclass(thing)}
        self.assertEqual(found, set(all_with_words()) | {"PurseError", "Missing"})

    def test_bases_can_be_made_with_nothing(self):
        self.assertIsInstance(errors.PurseError(), ValueError)
        self.assertIsInstance(errors.Missing(), LookupError)


class Fields(unittest.TestCase):
    def test_words(self):
        for name in all_with_words():
            self.assertEqual(made(name).word, name.lower())

    def test_own_fields(self):
        for name, field in FIELDS.items():
            for number in (0, 7, 10 ** 30 - 1):
                self.assertEqual(getattr(getattr(errors, name)(number), field), number, name)
                self.assertEqual(getattr(getattr(errors, name)(**{field: number}), field), number, name)

    def test_no_other_fields(self):
        for name in all_with_words():
            fields = {"word"} | ({FIELDS[name]} if name in FIELDS else set())
            self.assertEqual(set(vars(made(name))), fields, name)

    def test_fields_are_of_each_object(self):
        one, other = errors.TooWide(1), errors.TooWide(2)
        self.assertEqual((one.most, other.most), (1, 2))

    def test_made_with_what_they_take(self):
        for name in all_with_words():
            kind = getattr(errors, name)
            with self.assertRaises(TypeError, msg=name):
                kind() if name in FIELDS else kind(1)

    def test_caught_by_their_bases(self):
        for name in UNDER_PURSE_ERROR:
            with self.assertRaises(ValueError):
                raise made(name)
        for name in UNDER_MISSING:
            with self.assertRaises(LookupError):
                raise made(name)
        with self.assertRaises(IndexError):
            raise errors.NothingLeft()


if __name__ == "__main__":
    unittest.main()
