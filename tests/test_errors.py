"""Point 2 and the interface of settledland/errors.py."""

import unittest

from settledland.errors import InvalidCall, InvalidJournal, InvalidLand, LandError, SyntaxProblem


class Errors(unittest.TestCase):
    def test_base_classes(self):
        self.assertEqual(LandError.__bases__, (ValueError,))
        for error in (InvalidCall, InvalidJournal, SyntaxProblem, InvalidLand):
            self.assertEqual(error.__bases__, (LandError,))

    def test_errors_without_fields(self):
        for error in (LandError, InvalidCall, InvalidJournal):
            with self.assertRaises(ValueError):
                raise error("why")
            self.assertEqual(vars(error()), {})

    def test_fields(self):
        self.assertEqual(vars(SyntaxProblem(17)), {"start": 17})
        self.assertEqual(vars(InvalidLand("circle")), {"rule": "circle"})

    def test_fields_by_name(self):
        self.assertEqual(SyntaxProblem(start=0).start, 0)
        self.assertEqual(InvalidLand(rule="kinds").rule, "kinds")


if __name__ == "__main__":
    unittest.main()
