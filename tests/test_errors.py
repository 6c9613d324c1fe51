"""Point 27: the error classes, what they keep and what they are."""

import unittest

from halfring import errors

LOOKUPS = {"NoCell": "cell", "NoClient": "client", "NoKey": "key", "NothingDone": None}
VALUES = {"Asleep": None, "Awake": None, "BadText": "line", "CanNot": None, "Full": None, "TooMany": None,
          "Unfit": None, "Unsafe": None}


class TestErrors(unittest.TestCase):
    def check(self, names, base):
        for name, kept in names.items():
            error = getattr(errors, name)
            self.assertEqual(error.__bases__, (base,), name)
            self.assertEqual(error.__module__, "halfring.errors")
            self.check_kept(error, kept)

    def check_kept(self, error, kept):
        if kept is None:
            self.assertEqual(vars(error()), {})
            self.assertRaises(TypeError, error, 1)
            return
        for value in (3, "a", (1, 2), None):
            self.assertEqual(vars(error(value)), {kept: value})
            self.assertEqual(vars(error(**{kept: value})), {kept: value})
        self.assertRaises(TypeError, error)
        self.assertRaises(TypeError, error, 1, 2)

    def test_lookup_errors(self):
        self.check(LOOKUPS, LookupError)

    def test_value_errors(self):
        self.check(VALUES, ValueError)

    def test_no_other_classes(self):
        classes = [name for name, own in vars(errors).items() if isinstance(own, type(ValueError))]
        self.assertEqual(sorted(classes), sorted([*LOOKUPS, *VALUES]))

    def test_they_are_raised_and_caught_by_name(self):
        for name in [*LOOKUPS, *VALUES]:
            error = getattr(errors, name)
            has_value = {**LOOKUPS, **VALUES}[name] is not None
            with self.assertRaises(error) as caught:
                raise error(*([7] if has_value else []))
            self.assertNotEqual(str(caught.exception), "")


if __name__ == "__main__":
    unittest.main()
