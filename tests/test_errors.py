"""The classes of errors: their arguments, and what stands above them."""

import unittest

from lastkind import errors

WITH_ARGUMENTS = [
    (errors.BadText, ["part", "index"]),
    (errors.BadNote, ["line"]),
    (errors.NoLaying, ["laying"]),
    (errors.NoOrder, ["order"]),
    (errors.Turned, ["pair"]),
    (errors.BadLoop, ["part"]),
    (errors.BadCommand, ["command"]),
    (errors.NothingDone, []),
    (errors.NoStep, ["index"]),
]


class Arguments(unittest.TestCase):
    def test_by_position(self):
        for made, names in WITH_ARGUMENTS:
            values = [object() for _ in names]
            error = made(*values)
            for name, value in zip(names, values):
                self.assertIs(getattr(error, name), value, made)

    def test_by_name(self):
        for made, names in WITH_ARGUMENTS:
            values = {name: object() for name in names}
            error = made(**values)
            for name in names:
                self.assertIs(getattr(error, name), values[name], made)

    def test_each_argument_is_needed(self):
        for made, names in WITH_ARGUMENTS:
            if names:
                with self.assertRaises(TypeError, msg=made):
                    made(*names[1:])


class Bases(unittest.TestCase):
    def test_kind_errors_stand_directly_under_kind_error(self):
        self.assertEqual(errors.KindError.__bases__, (ValueError,))
        for made, _ in WITH_ARGUMENTS:
            if made is not errors.NoStep:
                self.assertEqual(made.__bases__, (errors.KindError,), made)

    def test_no_step_is_an_index_error_alone(self):
        self.assertEqual(errors.NoStep.__bases__, (IndexError,))
        self.assertFalse(issubclass(errors.NoStep, (errors.KindError, ValueError)))


if __name__ == "__main__":
    unittest.main()
