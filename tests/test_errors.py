import unittest

from layersplit import errors

NAMES = (
    "NoHouse", "NoDeed", "NoWord", "Taken", "Unknown", "NoArms", "NoRule",
    "NoShuts", "NoNumber", "NoMarks", "Closed", "NoRoom", "NoRow", "BadRow",
)


class Classes(unittest.TestCase):
    def test_split_error_is_straight_under_value_error(self):
        self.assertEqual(errors.SplitError.__bases__, (ValueError,))

    def test_each_is_straight_under_split_error(self):
        for name in NAMES:
            with self.subTest(name=name):
                self.assertEqual(getattr(errors, name).__bases__, (errors.SplitError,))

    def test_none_is_under_another(self):
        for name in NAMES:
            for other in NAMES:
                with self.subTest(name=name, other=other):
                    under = issubclass(getattr(errors, name), getattr(errors, other))
                    self.assertIs(under, name == other)

    def test_each_bears_its_name(self):
        for name in NAMES:
            self.assertEqual(getattr(errors, name).__name__, name)

    def test_each_is_raised_and_taken_as_any_refusal(self):
        for name in NAMES:
            refusal = getattr(errors, name)
            for taken in (refusal, errors.SplitError, ValueError):
                with self.subTest(name=name, taken=taken):
                    with self.assertRaises(taken):
                        raise refusal(1)


class Rows(unittest.TestCase):
    def test_row_is_set_when_made(self):
        for row in (1, 2, 300, 10 ** 30):
            self.assertEqual(errors.BadRow(row).row, row)

    def test_row_by_its_name(self):
        self.assertEqual(errors.BadRow(row=4).row, 4)

    def test_each_object_has_its_own_row(self):
        first = errors.BadRow(1)
        second = errors.BadRow(2)
        self.assertEqual((first.row, second.row), (1, 2))

    def test_row_is_there_when_taken(self):
        with self.assertRaises(errors.SplitError) as taken:
            raise errors.BadRow(9)
        self.assertEqual(taken.exception.row, 9)


if __name__ == "__main__":
    unittest.main()
