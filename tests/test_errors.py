"""[4]: the errors."""

import unittest

from oncetested import errors
from oncetested.boards import Board
from oncetested.desk import Desk
from oncetested.forms import Form
from oncetested.groups import Group, named_group
from oncetested.held import left_parts
from oncetested.live import Live
from oncetested.looks import stubborn_board
from oncetested.nets import Net
from oncetested.pairs import Pairs
from oncetested.renewals import broken_renewal
from oncetested.settling import contrary_kind
from oncetested.shapes import need_shape
from oncetested.told import Told
from oncetested.tries import unnoticed_change

AT = ["InvalidBoard", "InvalidSetting", "InvalidLot", "InvalidRow", "InvalidTable", "InvalidShape", "InvalidForm",
      "InvalidNet", "InvalidTests", "InvalidRenewal", "InvalidHolds", "InvalidCases", "InvalidText", "Refused"]
ARGUMENTS = {name: "at" for name in AT} | {"InvalidSize": "word", "NoName": "name"}


TWO = Board(2, (2, 2), (0, 1, 1, 0))
# For each error calls that raise it, and what it keeps then.
RAISED = {
    "InvalidBoard": [(lambda: Board(9, (2,), (0, 1)), "many"), (lambda: Board(2, (2, 0), ()), ("sizes", 1))],
    "InvalidSetting": [(lambda: TWO((0, 2)), 1)],
    "InvalidLot": [(lambda: left_parts(TWO, ()) and unnoticed_change(TWO, (1, 1), ()), 1)],
    "InvalidRow": [(lambda: named_group(Group([[0]]), (1,)), -1)],
    "InvalidTable": [(lambda: Group([[0, 0], [0, 0]]), (0, 1)), (lambda: Pairs(None, 1, 1, ()), -1)],
    "InvalidShape": [(lambda: need_shape(("bare", (1, 0))), 2)],
    "InvalidForm": [(lambda: Form(2, ((0, 0),), ()), ("names", 0)), (lambda: Told(None, ()), -1)],
    "InvalidNet": [(lambda: Net(2, 2, ()), -1)],
    "InvalidTests": [(lambda: unnoticed_change(TWO, (0,), 0), -1)],
    "InvalidRenewal": [(lambda: broken_renewal(TWO, (0, 1), ((0, 1), (0, 0))), 1)],
    "InvalidHolds": [(lambda: left_parts(TWO, ((0, 1), (0, 1))), 1)],
    "InvalidCases": [(lambda: Pairs(Group([[0, 1], [1, 0]]), 1, 1, [None]), 0)],
    "InvalidText": [(lambda: Board.read("marks 2\nparts 2\n02"), 2)],
    "InvalidSize": [(lambda: stubborn_board(8), "parts")],
    "Refused": [(lambda: Live(Board(2, (2,), (0, 0))), ("twice", 0, (0,), 1)), (lambda: Live(TWO).undo(), 0)],
    "NoName": [(lambda: contrary_kind("hull"), "hull")],
    "InvalidCommand": [(lambda: Desk().say("undo"), None), (lambda: Live(TWO).deed("jump"), None)],
}


class TestErrors(unittest.TestCase):
    def test_of_each_class_some_call_raises_it(self):
        self.assertEqual(set(RAISED), set(ARGUMENTS) | {"InvalidCommand"})
        for name, calls in RAISED.items():
            for call, kept in calls:
                with self.assertRaises(getattr(errors, name)) as caught:
                    call()
                self.assertIs(type(caught.exception), getattr(errors, name))
                self.assertIs(isinstance(caught.exception, errors.BoardError), name != "NoName")
                self.assertIs(isinstance(caught.exception, KeyError), name == "NoName")
                if name in ARGUMENTS:
                    self.assertEqual(getattr(caught.exception, ARGUMENTS[name]), kept)

    def test_base_classes(self):
        self.assertEqual(errors.BoardError.__bases__, (Exception,))
        for name in AT + ["InvalidSize", "InvalidCommand"]:
            self.assertEqual(getattr(errors, name).__bases__, (errors.BoardError,), name)
        self.assertEqual(errors.NoName.__bases__, (KeyError,))

    def test_none_is_derived_from_another_one(self):
        classes = [getattr(errors, name) for name in list(ARGUMENTS) + ["InvalidCommand"]]
        for one in classes:
            for other in classes:
                self.assertEqual(issubclass(one, other), one is other)

    def test_all_are_defined_there(self):
        for name in list(ARGUMENTS) + ["BoardError", "InvalidCommand"]:
            self.assertEqual(getattr(errors, name).__module__, "oncetested.errors")

    def test_arguments_are_kept_themselves(self):
        things = [0, -1, True, None, "sizes", ("sizes", 3), [1, [2]], {"a": []}, object(), errors.Refused([])]
        for name, argument in ARGUMENTS.items():
            for thing in things:
                self.assertIs(getattr(getattr(errors, name)(thing), argument), thing)
                self.assertIs(getattr(getattr(errors, name)(**{argument: thing}), argument), thing)

    def test_they_are_raised_and_caught(self):
        for name in ARGUMENTS:
            with self.assertRaises(getattr(errors, name)):
                raise getattr(errors, name)(0)
        with self.assertRaises(errors.BoardError):
            raise errors.InvalidCommand()
        with self.assertRaises(KeyError):
            raise errors.NoName("a")

    def test_a_number_of_arguments(self):
        for name in ARGUMENTS:
            with self.assertRaises(TypeError):
                getattr(errors, name)()
            with self.assertRaises(TypeError):
                getattr(errors, name)(1, 2)


if __name__ == "__main__":
    unittest.main()
