"""Refusals: each of its own class directly under PackError, with its values by the told names."""

import unittest

from packedforms import errors

FIELDS = {
    "BadBook": ("place", "why"),
    "BadKind": ("place", "why"),
    "TooMany": ("kind",),
    "Endless": ("ring",),
    "TooGreat": ("kind",),
    "Hollow": ("paper",),
    "Misfit": ("path",),
    "NoCode": ("code",),
    "Boxed": ("kind",),
    "NoRank": ("number",),
    "BadPlan": ("entry", "why"),
    "BadImage": ("path", "why"),
    "TooWide": ("kind", "size"),
    "BadStore": ("why", "root", "path"),
    "Full": ("need", "rest"),
    "NoHandle": ("handle",),
    "BadPath": ("step",),
    "OutOfRow": ("step",),
    "WrongArm": ("step",),
    "BadProgram": ("place", "why"),
    "BadCode": ("row", "why"),
    "BadPaper": ("row", "why"),
    "NoGrowth": ("path", "why"),
    "NotShrunk": ("path",),
}


class ErrorsTest(unittest.TestCase):
    def test_pack_error(self):
        self.assertEqual(errors.PackError.__bases__, (ValueError,))

    def test_each_class_stands_directly_below(self):
        for name in FIELDS:
            self.assertEqual(getattr(errors, name).__bases__, (errors.PackError,), name)

    def test_no_other_class(self):
        classes = [name for name in vars(errors) if isinstance(getattr(errors, name), type)]
        self.assertEqual(set(classes), set(FIELDS) | {"PackError"})

    def test_values_in_the_told_order(self):
        for name, fields in FIELDS.items():
            values = [("value", number) for number in range(len(fields))]
            error = getattr(errors, name)(*values)
            self.assertEqual(vars(error), dict(zip(fields, values)), name)
            self.assertEqual(list(vars(error)), list(fields), name)

    def test_another_number_of_values(self):
        for name, fields in FIELDS.items():
            for many in (len(fields) - 1, len(fields) + 1):
                with self.assertRaises(TypeError):
                    getattr(errors, name)(*["value"] * many)


if __name__ == "__main__":
    unittest.main()
