"""[4]: the errors."""

import unittest

from oncetested import errors

AT = ["InvalidBoard", "InvalidSetting", "InvalidLot", "InvalidRow", "InvalidTable", "InvalidShape", "InvalidForm",
      "InvalidNet", "InvalidTests", "InvalidRenewal", "InvalidHolds", "InvalidCases", "InvalidText", "Refused"]
ARGUMENTS = {name: "at" for name in AT} | {"InvalidSize": "word", "NoName": "name"}


class TestErrors(unittest.TestCase):
    def test_base_classes(self):
        self.assertEqual(errors.BoardError.__bases__, (Exception,))
        for name in AT + ["InvalidSize", "InvalidCommand"]:
            self.assertEqual(getattr(errors, name).__bases__, (errors.BoardError,), name)
        self.assertEqual(errors.NoName.__bases__, (KeyError,))

    def test_none_is_derived_from_another_one(self):
        classes = [getattr(errors, name) for name in list(ARGUMENTS) + ["InvalidCommand"]]
        for one in classes:
            for other in classes:
                self.assertEqual(issubclass(one, other), one is other)

    def test_all_are_defined_there(self):
        for name in list(ARGUMENTS) + ["BoardError", "InvalidCommand"]:
            self.assertEqual(getattr(errors, name).__module__, "oncetested.errors")

    def test_arguments_are_kept_themselves(self):
        things = [0, -1, True, None, "sizes", ("sizes", 3), [1, [2]], {"a": []}, object(), errors.Refused([])]
        for name, argument in ARGUMENTS.items():
            for thing in things:
                self.assertIs(getattr(getattr(errors, name)(thing), argument), thing)
                self.assertIs(getattr(getattr(errors, name)(**{argument: thing}), argument), thing)

    def test_they_are_raised_and_caught(self):
        for name in ARGUMENTS:
            with self.assertRaises(getattr(errors, name)):
                raise getattr(errors, name)(0)
        with self.assertRaises(errors.BoardError):
            raise errors.InvalidCommand()
        with self.assertRaises(KeyError):
            raise errors.NoName("a")

    def test_a_number_of_arguments(self):
        for name in ARGUMENTS:
            with self.assertRaises(TypeError):
                getattr(errors, name)()
            with self.assertRaises(TypeError):
                getattr(errors, name)(1, 2)


if __name__ == "__main__":
    unittest.main()
