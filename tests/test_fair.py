"""[7]: fair boards and their faults."""

import unittest

from oncetested.boards import Board
from oncetested.errors import Refused
from oncetested.fair import fair_fault, fault_holds, is_fair, need_fair
from support import any_values, as_lists, fair_board, odd_board, random_board, seeded, settings_of, sums_board, told_error


def true_faults(board):
    """All true faults of a board, by all settings."""
    faults = [("size", part) for part in range(len(board)) if board.sizes[part] != board.many]
    for setting in settings_of(board.sizes):
        for part in range(len(board)):
            for content in range(setting[part] + 1, board.sizes[part]):
                other = setting[:part] + (content,) + setting[part + 1:]
                if board(setting) == board(other):
                    faults.append(("twice", part, setting, content))
    return faults


class TestFair(unittest.TestCase):
    def test_least_fault(self):
        rng = seeded(3)
        kinds = {}
        for at in range(200):
            if at % 2:
                many = rng.randint(2, 3)
                sizes = (many,) * rng.randint(1, 3)
                board = fair_board(rng, many, len(sizes))
                marks = list(board.marks)
                if at % 4 == 1:
                    marks[rng.randrange(len(marks))] = rng.randrange(many)
                board = Board(many, sizes, marks)
            else:
                board = random_board(rng)
            faults = sorted(true_faults(board))
            least = faults[0] if faults else None
            self.assertEqual(fair_fault(board), least)
            self.assertIs(is_fair(board), least is None)
            kinds[least and least[0]] = True
            if least is None:
                self.assertIs(need_fair(board), board)
            else:
                told_error(self, Refused, least, need_fair, board)
        self.assertEqual(set(kinds), {None, "size", "twice"})

    def test_kinds_of_faults(self):
        self.assertEqual(fair_fault(Board.read("marks 3\nparts 3 3\n012\n120\n202")), ("twice", 0, (0, 2), 2))
        self.assertEqual(fair_fault(Board(3, (3, 2), (0, 0, 0, 0, 0, 0))), ("size", 1))
        self.assertEqual(fair_fault(Board(2, (2, 2), (0, 0, 1, 1))), ("twice", 1, (0, 0), 1))
        self.assertIsNone(fair_fault(sums_board()))
        self.assertIsNone(fair_fault(board=odd_board()))
        self.assertIsNone(fair_fault(Board(8, (8,), (7, 6, 5, 4, 3, 2, 1, 0))))

    def test_faults_that_hold(self):
        rng = seeded(4)
        for _ in range(40):
            board = random_board(rng, 12)
            true = true_faults(board)
            tried = [("size", part) for part in range(-1, 5)]
            tried += [("twice", part, setting, content) for part in range(-1, 4) for setting in settings_of(board.sizes)
                      for content in range(-1, 5)]
            for fault in tried + true:
                self.assertIs(fault_holds(board, fault), fault in true)
                self.assertFalse(fault_holds(board, as_lists(fault)))
            for value in any_values():
                self.assertIs(fault_holds(board=board, value=value), value in true and not has_bool(value))

    def test_spoilt_faults(self):
        board = Board(2, (2, 2), (0, 0, 0, 0))
        self.assertTrue(fault_holds(board, ("twice", 0, (0, 1), 1)))
        for value in (("twice", 0, [0, 1], 1), ["twice", 0, (0, 1), 1], ("twice", False, (0, 1), 1), ("twice", 0, (0, 1), True),
                      ("twice", 0, (False, 1), 1), ("twice", 0, (0, 1), 0), ("twice", 0, (1, 1), 0), ("twice", 0, (1, 1), 1),
                      ("twice", 0, (0, 1)), ("twice", 0, (0, 1), 1, 0), ("twice", 0, (0, 2), 1), ("twice", 2, (0, 1), 1),
                      ("size", 0, (0, 1), 1), ("twice", 0), ("size", 0), ("size", 5), ("size",), (0, "size"), ("twice", 0, 0, 1)):
            self.assertIs(fault_holds(board, value), False)
        wide = Board(2, (3, 2), (0, 0, 1, 1, 0, 1))
        self.assertTrue(fault_holds(wide, ("size", 0)))
        self.assertFalse(fault_holds(wide, ("size", False)))
        self.assertTrue(fault_holds(wide, ("twice", 0, (0, 0), 2)))
        self.assertTrue(fault_holds(wide, ("twice", 1, (1, 0), 1)))

    def test_fair_exactly_if_unlike_settings_of_one_mark_differ_in_two_parts(self):
        rng = seeded(9)
        seen = {}
        for _ in range(150):
            many = rng.randint(2, 4)
            board = fair_board(rng, many, rng.randint(1, 3))
            marks = list(board.marks)
            if rng.random() < 0.5:
                marks[rng.randrange(len(marks))] = rng.randrange(many)
            board = Board(many, board.sizes, marks)
            near = False
            for one in settings_of(board.sizes):
                for other in settings_of(board.sizes):
                    if board(one) == board(other) and sum(a != b for a, b in zip(one, other)) == 1:
                        near = True
            self.assertIs(is_fair(board), not near)
            seen[near] = True
        self.assertEqual(len(seen), 2)

    def test_greatest_boards(self):
        sizes = (3,) * 6
        board = Board(3, sizes, [sum(setting) % 3 for setting in settings_of(sizes)])
        self.assertTrue(is_fair(board))
        marks = list(board.marks)
        marks[-1] = (marks[-1] + 1) % 3
        self.assertEqual(fair_fault(Board(3, sizes, marks)), sorted(true_faults(Board(3, sizes, marks)))[0])


def has_bool(value):
    return isinstance(value, bool) or isinstance(value, tuple) and any(has_bool(part) for part in value)


if __name__ == "__main__":
    unittest.main()
