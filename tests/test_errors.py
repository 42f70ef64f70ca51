import inspect
import unittest

from firsthand import errors

FIELDS = {
    "BadAlphabet": ["alphabet"], "BadForm": ["state"], "BadText": ["index"], "BadPattern": ["index"],
    "EmptySet": [], "AlphabetsDiffer": ["one", "two"], "BadFault": ["index"], "BadRule": ["index"],
    "BadName": ["name"], "TakenName": ["name"], "TooManyCopies": ["count"], "UnknownCopy": ["name"],
    "NotKept": ["name"], "StillUsed": ["name"], "CannotContract": ["name"], "NothingToUndo": [],
    "BadHistory": ["place", "name"], "NoHistory": [], "NoWays": ["name"], "BadStem": [], "NoStem": [],
    "BadNotation": ["line"], "NotCopied": ["name"], "NoChoice": [], "BadSpread": ["least"], "NoDating": [],
}


class ErrorsTest(unittest.TestCase):
    def test_base(self):
        self.assertEqual(errors.CopyError.__bases__, (ValueError,))

    def test_classes_and_fields(self):
        for name, fields in FIELDS.items():
            with self.subTest(name):
                kind = getattr(errors, name)
                self.assertEqual(kind.__bases__, (errors.CopyError,))
                self.assertEqual(kind.__module__, "firsthand.errors")
                values = [f"value{at}" for at in range(len(fields))]
                error = kind(*values)
                self.assertEqual([getattr(error, field) for field in fields], values)
                with self.assertRaises(errors.CopyError):
                    raise error

    def test_no_other_classes(self):
        found = [name for name, value in vars(errors).items() if inspect.isclass(value)]
        self.assertEqual(sorted(found), sorted([*FIELDS, "CopyError"]))
