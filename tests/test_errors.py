"""Point 2 and the section "gradetalk/errors.py" of the interface."""

import unittest

from gradetalk import errors
from tests.things import not_degrees, not_sayings

FIELDS = {
    "InvalidDegree": ("thing",),
    "InvalidName": ("thing",),
    "InvalidSaying": ("thing",),
    "TooLarge": ("size",),
    "InvalidText": ("at",),
    "InvalidPieces": ("place",),
    "Overlap": ("first", "second"),
    "InvalidJoining": ("thing",),
    "InvalidDegrees": ("thing",),
    "NoDegree": ("name",),
    "InvalidShape": ("thing",),
    "InvalidFacts": ("place",),
    "InvalidSayings": ("place",),
    "Clash": (),
    "NoFact": ("number",),
    "InvalidBook": ("thing",),
}


class Classes(unittest.TestCase):
    def test_the_base_is_a_value_error(self):
        self.assertEqual(errors.GradeError.__bases__, (ValueError,))

    def test_every_class_is_directly_beneath_the_base(self):
        for name in FIELDS:
            with self.subTest(name):
                self.assertEqual(getattr(errors, name).__bases__, (errors.GradeError,))

    def test_every_class_is_defined_in_this_module(self):
        for name in ("GradeError", *FIELDS):
            with self.subTest(name):
                self.assertEqual(getattr(errors, name).__module__, "gradetalk.errors")
                self.assertEqual(getattr(errors, name).__name__, name)

    def test_no_class_catches_another_one(self):
        for name in FIELDS:
            for second in FIELDS:
                if name != second:
                    self.assertFalse(issubclass(getattr(errors, name), getattr(errors, second)))

    def test_they_can_be_raised_and_caught_by_the_base(self):
        for name, fields in FIELDS.items():
            with self.subTest(name):
                for caught in (getattr(errors, name), errors.GradeError, ValueError):
                    with self.assertRaises(caught):
                        raise getattr(errors, name)(*fields)


class Fields(unittest.TestCase):
    def values(self):
        return not_degrees() + not_sayings() + [(0, 1), "a", 201]

    def test_by_position(self):
        for name, fields in FIELDS.items():
            if len(fields) == 1:
                for value in self.values():
                    error = getattr(errors, name)(value)
                    self.assertEqual(getattr(error, fields[0]), value)

    def test_by_name(self):
        for name, fields in FIELDS.items():
            if len(fields) == 1:
                for value in self.values():
                    error = getattr(errors, name)(**{fields[0]: value})
                    self.assertEqual(getattr(error, fields[0]), value)

    def test_true_stays_true(self):
        self.assertIs(errors.InvalidDegree(True).thing, True)
        self.assertIs(errors.InvalidDegree(thing=False).thing, False)

    def test_the_two_fields_of_an_overlap(self):
        for error in (
            errors.Overlap(3, "x"),
            errors.Overlap(3, second="x"),
            errors.Overlap(second="x", first=3),
        ):
            self.assertEqual((error.first, error.second), (3, "x"))
        for value in self.values():
            error = errors.Overlap(value, [value])
            self.assertEqual((error.first, error.second), (value, [value]))

    def test_a_clash_has_no_fields(self):
        self.assertEqual(vars(errors.Clash()), {})

    def test_no_other_fields(self):
        for name, fields in FIELDS.items():
            with self.subTest(name):
                self.assertEqual(sorted(vars(getattr(errors, name)(*fields))), sorted(fields))

    def test_each_needs_its_fields_and_no_more(self):
        for name, fields in FIELDS.items():
            if fields:
                with self.subTest(name):
                    self.assertRaises(TypeError, getattr(errors, name))
                    self.assertRaises(TypeError, getattr(errors, name), *fields, 1)

    def test_they_can_be_shown(self):
        for name, fields in FIELDS.items():
            with self.subTest(name):
                self.assertIsInstance(str(getattr(errors, name)(*fields)), str)
                self.assertIsInstance(str(getattr(errors, name)(**{field: 1 for field in fields})), str)


if __name__ == "__main__":
    unittest.main()
