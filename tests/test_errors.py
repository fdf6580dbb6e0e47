import unittest

from goneday import errors

PLAIN = ("NoDay", "NoDeed", "NoNumber", "NoPaper", "NoLeave")
FIELDS = (
    ("Twice", "number"),
    ("GoneMaker", "paper"),
    ("MustStay", "rule"),
    ("Held", "hold"),
    ("NoText", "row"),
    ("NoCall", "row"),
)


class TestErrors(unittest.TestCase):
    def classes(self):
        return [getattr(errors, name) for name in PLAIN + tuple(name for name, field in FIELDS)]

    def test_any_refusal_is_a_value_error(self):
        self.assertIs(errors.ArchiveError.__bases__[0], ValueError)
        with self.assertRaises(ValueError):
            raise errors.ArchiveError("words")

    def test_each_stands_under_archive_error(self):
        for found in self.classes():
            self.assertTrue(issubclass(found, errors.ArchiveError), found)
            self.assertIsNot(found, errors.ArchiveError)

    def test_none_stands_under_another_one(self):
        for one in self.classes():
            for other in self.classes():
                if one is not other:
                    self.assertFalse(issubclass(one, other), (one, other))

    def test_eleven_unlike_classes(self):
        self.assertEqual(len(set(self.classes())), 11)

    def test_fields_are_set_when_an_object_is_made(self):
        for name, field in FIELDS:
            for value in (0, 17, "word"):
                made = getattr(errors, name)(value)
                self.assertEqual(getattr(made, field), value, name)

    def test_the_field_is_there_when_it_is_raised(self):
        for name, field in FIELDS:
            with self.assertRaises(errors.ArchiveError) as caught:
                raise getattr(errors, name)("word")
            self.assertEqual(getattr(caught.exception, field), "word")

    def test_a_row_of_any_kind_is_kept_as_it_is(self):
        for row in (None, 3, True, [], {}, ["a", {}], ("a", []), "a\nb"):
            self.assertEqual(errors.NoCall(row).row, row)

    def test_those_without_a_field_are_made_of_nothing(self):
        for name in PLAIN:
            self.assertIsInstance(getattr(errors, name)(), errors.ArchiveError)


if __name__ == "__main__":
    unittest.main()
