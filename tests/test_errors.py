"""The errors of the interface."""

import inspect
import unittest

from surelyhas import errors

FIELDS = {
    "value": ("BadArgument", "BadLine", "BadPage", "BadPieces", "BadName", "BadSigns", "BadQuestion", "BadPrice",
              "BadDepth"),
    "name": ("UnknownName", "NameTaken"),
    "at": ("BadPattern", "BadText"),
    "number": ("LimitExceeded",),
    "line": ("BadCommand",),
}
CLASSES = [(getattr(errors, name), field) for field, names in FIELDS.items() for name in names]
VALUES = (None, 0, -3, True, False, "", "text", b"ab", (), ("a", 1), [], [1, [2]], {}, {"a": 1}, 2.5, object(), int)


class ErrorTest(unittest.TestCase):
    def test_all_are_there(self):
        self.assertEqual(len(CLASSES), 15)
        found = [name for name, _ in inspect.getmembers(errors, inspect.isclass)]
        self.assertEqual(sorted(found), sorted(["HasError", *[made.__name__ for made, _ in CLASSES]]))

    def test_field_by_position(self):
        for made, field in CLASSES:
            for value in VALUES:
                with self.subTest(made=made.__name__, value=value):
                    self.assertIs(getattr(made(value), field), value)

    def test_field_by_name(self):
        for made, field in CLASSES:
            for value in VALUES:
                with self.subTest(made=made.__name__, value=value):
                    self.assertIs(getattr(made(**{field: value}), field), value)

    def test_no_field_of_another_name(self):
        for made, field in CLASSES:
            for other in FIELDS:
                if other != field:
                    self.assertFalse(hasattr(made(1), other), made.__name__)
                    self.assertRaises(TypeError, made, **{other: 1})

    def test_each_stands_directly_under_the_base(self):
        self.assertEqual(errors.HasError.__bases__, (Exception,))
        for made, _ in CLASSES:
            self.assertEqual(made.__bases__, (errors.HasError,))
            self.assertIsInstance(made(1), errors.HasError)

    def test_each_is_none_of_the_others(self):
        for made, _ in CLASSES:
            for other, _ in CLASSES:
                self.assertEqual(isinstance(made(1), other), made is other)

    def test_each_is_raised_and_caught_by_the_base(self):
        for made, field in CLASSES:
            with self.assertRaises(errors.HasError) as caught:
                raise made(7)
            self.assertEqual(getattr(caught.exception, field), 7)

    def test_two_errors_do_not_share_a_field(self):
        for made, field in CLASSES:
            one, two = made(1), made(2)
            self.assertEqual((getattr(one, field), getattr(two, field)), (1, 2))

    def test_an_error_equals_no_object_of_another_class(self):
        for made, _ in CLASSES:
            self.assertTrue(all(made(1) != other(1) for other, _ in CLASSES if other is not made))
            self.assertFalse(made(1) == 1)


if __name__ == "__main__":
    unittest.main()
