"""Points 1 and 2, and the interface of twiceeach.errors."""

import unittest

from twiceeach import errors

BASES = {
    "TwiceError": "ValueError",
    "BadBook": "TwiceError",
    "BadLetters": "BadBook",
    "BadSymbol": "BadBook",
    "StandsThrice": "BadBook",
    "TooLarge": "BadBook",
    "BadNames": "TwiceError",
    "BadFilling": "TwiceError",
    "BadLengths": "TwiceError",
    "BadText": "TwiceError",
    "BadWalk": "TwiceError",
    "BadMachine": "TwiceError",
    "BadRule": "TwiceError",
    "BadExchange": "TwiceError",
    "BadWord": "TwiceError",
    "NoShape": "TwiceError",
    "Endless": "TwiceError",
    "NoFilling": "TwiceError",
    "BadEdit": "TwiceError",
    "NothingToUndo": "BadEdit",
    "NothingToRedo": "BadEdit",
    "NoSuchEquation": "BadEdit",
    "NoSuchPiece": "BadEdit",
}
FIELDS = {
    "BadLetters": {"letters": "ba"},
    "BadSymbol": {"symbol": "c"},
    "StandsThrice": {"name": "X"},
    "TooLarge": {"what": "symbols", "limit": 24},
    "BadNames": {"name": "X"},
    "BadFilling": {"name": "Y"},
    "BadLengths": {"name": "Z"},
    "BadText": {"line": 3},
    "BadWalk": {"at": 0},
    "NoSuchEquation": {"number": -1},
    "NoSuchPiece": {"name": "Ab1"},
}


class ErrorClasses(unittest.TestCase):

    def test_each_class_has_exactly_the_base_that_the_interface_tells(self):
        for name, base in BASES.items():
            with self.subTest(name):
                found = [one.__name__ for one in getattr(errors, name).__bases__]
                self.assertEqual(found, [base])

    def test_each_error_is_a_twice_error_and_a_value_error(self):
        for name in BASES:
            with self.subTest(name):
                self.assertTrue(issubclass(getattr(errors, name), errors.TwiceError))
                self.assertTrue(issubclass(getattr(errors, name), ValueError))

    def test_the_arguments_are_fields(self):
        for name, fields in FIELDS.items():
            with self.subTest(name):
                error = getattr(errors, name)(*fields.values())
                self.assertEqual({field: getattr(error, field) for field in fields}, fields)

    def test_the_classes_stand_in_this_file(self):
        for name in BASES:
            self.assertEqual(getattr(errors, name).__module__, "twiceeach.errors")

    def test_errors_without_arguments_can_be_raised(self):
        for name in BASES:
            if name not in FIELDS:
                with self.subTest(name), self.assertRaises(errors.TwiceError):
                    raise getattr(errors, name)()


if __name__ == "__main__":
    unittest.main()
