import unittest

from reissue import errors

from samples import session, values_but_behaviors

FIELDS = {
    "InvalidBehavior": "value", "InvalidNumber": "value", "InvalidRule": "value", "InvalidList": "value",
    "InvalidName": "name", "UnknownName": "name", "TakenName": "name", "NotOut": "number",
}
WITHOUT = ["NoneFree", "NothingToUndo"]


class Point5(unittest.TestCase):
    def test_bases(self):
        self.assertEqual(errors.ReissueError.__bases__, (ValueError,))
        for name in [*FIELDS, *WITHOUT]:
            self.assertEqual(getattr(errors, name).__bases__, (errors.ReissueError,), name)

    def test_field_by_position_by_name_and_left_out(self):
        for name, field in FIELDS.items():
            kind = getattr(errors, name)
            for value in [*values_but_behaviors(), session()]:
                self.assertIs(getattr(kind(value), field), value, name)
                self.assertIs(getattr(kind(**{field: value}), field), value, name)
            self.assertIsNone(getattr(kind(), field), name)

    def test_one_field_only(self):
        for name, field in FIELDS.items():
            kind = getattr(errors, name)
            self.assertEqual(list(vars(kind(7))), [field], name)
            with self.assertRaises(TypeError):
                kind(1, 2)

    def test_classes_without_fields(self):
        for name in WITHOUT:
            kind = getattr(errors, name)
            self.assertEqual(vars(kind()), {}, name)
            with self.assertRaises(kind):
                raise kind()

    def test_caught_as_the_common_class_only(self):
        for name, field in FIELDS.items():
            try:
                raise getattr(errors, name)([1])
            except errors.ReissueError as error:
                self.assertEqual(getattr(error, field), [1])
        self.assertFalse(issubclass(errors.InvalidName, errors.UnknownName))


if __name__ == "__main__":
    unittest.main()
