import unittest

from pushedback import errors

FAMILIES = {
    "PaperError": {"InvalidPaper": ("word", "at")},
    "StackError": {"NotUsable": ("word", "at"), "Unread": ("why",)},
    "LossError": {"Spoilt": ("frame",), "Unmended": ("untold",)},
    "LiveError": {"InvalidEvent": ("event", "reason"), "NothingToUndo": ("steps",)},
    "TextError": {"InvalidText": ("line", "field"), "InvalidRow": ("row",)},
}


class ErrorsTest(unittest.TestCase):
    def test_families(self):
        self.assertEqual(errors.PushError.__bases__, (ValueError,))
        for family, members in FAMILIES.items():
            base = getattr(errors, family)
            self.assertEqual(base.__bases__, (errors.PushError,))
            for name in members:
                self.assertEqual(getattr(errors, name).__bases__, (base,))

    def test_fields_are_the_very_objects(self):
        for members in FAMILIES.values():
            for name, fields in members.items():
                given = [[name], {"any": [1]}][:len(fields)]
                for error in (
                    getattr(errors, name)(*given),
                    getattr(errors, name)(**dict(zip(fields, given))),
                ):
                    for field, value in zip(fields, given):
                        self.assertIs(getattr(error, field), value)
                    self.assertEqual(set(vars(error)), set(fields))

    def test_number_of_fields(self):
        for members in FAMILIES.values():
            for name, fields in members.items():
                maker = getattr(errors, name)
                with self.assertRaises(TypeError):
                    maker(*[0 for _ in range(len(fields) + 1)])
                with self.assertRaises(TypeError):
                    maker(*[0 for _ in range(len(fields) - 1)])

    def test_caught_by_family(self):
        for family, members in FAMILIES.items():
            for name, fields in members.items():
                with self.assertRaises(getattr(errors, family)):
                    raise getattr(errors, name)(*fields)
                with self.assertRaises(ValueError):
                    raise getattr(errors, name)(*fields)


if __name__ == "__main__":
    unittest.main()
