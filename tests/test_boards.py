"""[5], [6]: boards, settings and lots; [1] to [3] for them."""

import unittest

from oncetested.boards import (Board, all_settings, is_setting, joined_setting, lot_contents, lot_marks, need_board,
                               need_lot, nth_setting, parted_setting, rest_of, setting_number)
from oncetested.errors import InvalidBoard, InvalidLot, InvalidSetting, InvalidSize, InvalidText
from oncetested.groups import Group
from support import any_values, as_lists, has_lists, lots_of, pick, random_board, rest, seeded, settings_of, told_error


class TestBoard(unittest.TestCase):
    def test_attributes(self):
        board = Board(3, [2, 3, 4], [0, 1, 2] * 8)
        self.assertEqual((board.many, board.sizes, board.steps), (3, (2, 3, 4), (12, 4, 1)))
        self.assertEqual(board.marks, (0, 1, 2) * 8)
        self.assertIsInstance(board.sizes, tuple)
        self.assertIsInstance(board.marks, tuple)
        self.assertIsInstance(board.steps, tuple)
        self.assertEqual(len(board), 3)
        self.assertEqual(Board(marks=(0,), many=2, sizes=(1,)).steps, (1,))

    def test_many(self):
        for many in any_values():
            if type(many) is int and 2 <= many <= 8:
                self.assertEqual(Board(many, (1,), (0,)).many, many)
            else:
                told_error(self, InvalidBoard, "many", Board, many, None, None)

    def test_sizes(self):
        for sizes in (None, 3, "22", {}, (), [], (1,) * 9, [0] * 9, {2: 2}, range(2)):
            told_error(self, InvalidBoard, ("sizes", -1), Board, 2, sizes, None)
        for sizes, at in (((0,), 0), ((2, True), 1), ([2, 2, -1, 0], 2), ((1, "2"), 1), ((2, (2,)), 1), ((None,), 0),
                          ((1,) * 7 + (0,), 7), ((10 ** 30, 0), 1)):
            told_error(self, InvalidBoard, ("sizes", at), Board, 2, sizes, None)
        for value in any_values():
            try:
                Board(2, value, None)
            except InvalidBoard as wrong:
                self.assertIn(wrong.at[0], ("sizes", "marks"))

    def test_number_of_settings(self):
        self.assertEqual(len(Board(2, (20000,), (1,) * 20000).marks), 20000)
        self.assertEqual(len(Board(2, (100, 2, 100), [0] * 20000).marks), 20000)
        for sizes in ((20001,), (2, 10001), (10 ** 30,), (100, 201), (4,) * 8):
            told_error(self, InvalidSize, "settings", Board, 2, sizes, None)

    def test_marks(self):
        for marks in (None, "01", (), (0, 1, 1), [0], {0: 0, 1: 1}):
            told_error(self, InvalidBoard, ("marks", -1), Board, 2, (2,), marks)
        for marks, at in (((0, 2), 1), ((True, 0), 0), ([0, False], 1), ((-1, 5), 0), (("0", 0), 0), (([], None), 0)):
            told_error(self, InvalidBoard, ("marks", at), Board, 2, (2,), marks)
        self.assertEqual(Board(8, (1,), (7,)).marks, (7,))
        for value in any_values():
            try:
                Board(2, (2,), value)
            except InvalidBoard as wrong:
                self.assertEqual(wrong.at[0], "marks")

    def test_lists_and_later_changes(self):
        sizes, marks = [2, 2], [0, 1, 1, 0]
        board = Board(2, sizes, marks)
        self.assertEqual(board, Board(2, tuple(sizes), tuple(marks)))
        sizes[0], marks[0] = 3, 1
        self.assertEqual((board.sizes, board.marks), ((2, 2), (0, 1, 1, 0)))

    def test_equality(self):
        board = Board(2, (2,), (0, 1))
        self.assertTrue(board == Board(2, [2], [0, 1]))
        self.assertFalse(board != Board(2, [2], [0, 1]))
        for other in (Board(3, (2,), (0, 1)), Board(2, (1, 2), (0, 1)), Board(2, (2, 1), (0, 1)), Board(2, (2,), (1, 1))):
            self.assertFalse(board == other)
            self.assertTrue(board != other)
        for other in (2, None, "marks", (2, (2,), (0, 1)), Group(((0, 1), (1, 0))), object()):
            self.assertFalse(board == other)
            self.assertFalse(other == board)
        self.assertTrue(board != Whatever())

    def test_it_is_not_iterable(self):
        board = Board(2, (2,), (0, 1))
        with self.assertRaises(TypeError):
            iter(board)
        with self.assertRaises(TypeError):
            list(board)

    def test_marks_of_settings(self):
        board = Board(4, (2, 3), (0, 1, 2, 3, 2, 1))
        self.assertEqual([board(setting) for setting in settings_of((2, 3))], [0, 1, 2, 3, 2, 1])
        self.assertEqual((board([1, 0]), board(setting=(1, 0))), (3, 3))
        for value in (None, 3, "01", (), (0,), [0, 0, 0], {}):
            told_error(self, InvalidSetting, -1, board, value)
        for value, at in (((2, 3), 0), ((0, 3), 1), ((0, True), 1), ([-1, 0], 0), ((1, "0"), 1), ((None, 0), 0)):
            told_error(self, InvalidSetting, at, board, value)
        for value in any_values():
            try:
                self.assertIn(board(value), range(4))
            except InvalidSetting:
                pass


class Whatever:
    def __eq__(self, other):
        return False


class TestText(unittest.TestCase):
    def test_rows(self):
        self.assertEqual(Board(3, (3, 3), (0, 1, 2, 1, 2, 0, 2, 0, 2)).text(), "marks 3\nparts 3 3\n012\n120\n202")
        self.assertEqual(Board(2, (3,), (0, 1, 1)).text(), "marks 2\nparts 3\n011")
        self.assertEqual(Board(8, (2, 1), (7, 5)).text(), "marks 8\nparts 2 1\n7\n5")
        self.assertEqual(Board(2, (2, 1, 2), (0, 1, 1, 0)).text(), "marks 2\nparts 2 1 2\n01\n10")

    def test_there_and_back(self):
        rng = seeded(5)
        for _ in range(60):
            board = random_board(rng)
            self.assertEqual(Board.read(board.text()), board)
            self.assertEqual(Board.read(text=board.text()).text(), board.text())
        board = Board(2, (20000,), [0, 1] * 10000)
        self.assertEqual(Board.read(board.text()), board)
        board = Board(2, (10000, 2), [0, 1] * 10000)
        self.assertEqual(Board.read(board.text()), board)

    def test_no_string(self):
        for value in any_values():
            if not isinstance(value, str):
                told_error(self, InvalidText, -1, Board.read, value)
            else:
                told_error(self, InvalidText, 1 if value == "marks 2" else 0, Board.read, value)

    def test_row_0(self):
        for row in ("", "marks", "marks ", "marks 1", "marks 9", "marks 03", "marks 3 ", " marks 3", "marks  3", "marks 3 3",
                    "Marks 3", "parts 3", "marks x", "marks 10", "marks -3", "marks +3", "marks 3\r", "3", "marks\t3"):
            told_error(self, InvalidText, 0, Board.read, row + "\nparts 2\n01")
            told_error(self, InvalidText, 0, Board.read, row + "\nparts 0")

    def test_row_1(self):
        for row in ("", "parts", "parts ", "parts 0", "parts 2 0", "parts 02", "parts 2 ", "parts  2", " parts 2", "part 2",
                    "parts 2  2", "parts 100000", "parts 1 1 1 1 1 1 1 1 1", "parts -1", "parts +2", "parts 2.0",
                    "parts 1_0", "marks 2", "parts 00001", "parts 2\t2", "2", "parts 123456"):
            told_error(self, InvalidText, 1, Board.read, "marks 2\n" + row + "\n01")
        told_error(self, InvalidText, 1, Board.read, "marks 2")
        told_error(self, InvalidText, 1, Board.read, "marks 2\n")

    def test_too_many_settings(self):
        for row in ("parts 20001", "parts 99999", "parts 142 141", "parts 4 4 4 4 4 4 4 4"):
            told_error(self, InvalidSize, "settings", Board.read, "marks 2\n" + row)
            told_error(self, InvalidSize, "settings", Board.read, "marks 2\n" + row + "\nxyz\n")
        told_error(self, InvalidText, 0, Board.read, "marks 1\nparts 99999")

    def test_further_rows(self):
        rows = "marks 3\nparts 2 2 3\n012\n120\n201\n000".split("\n")
        self.assertEqual(Board.read("\n".join(rows)).marks, (0, 1, 2, 1, 2, 0, 2, 0, 1, 0, 0, 0))
        for at in range(2, 6):
            for row in ("", "01", "0123", "013", "0 1", " 012", "012 ", "01x", "-12", "0\t2", "01\r"):
                spoilt = rows[:at] + [row] + rows[at + 1:]
                told_error(self, InvalidText, at, Board.read, "\n".join(spoilt))
                if at < 5:
                    told_error(self, InvalidText, at, Board.read, "\n".join(spoilt[:-1] + ["9"]))
            told_error(self, InvalidText, 5, Board.read, "\n".join(rows[:at] + rows[at + 1:]))
            told_error(self, InvalidText, at, Board.read, "\n".join(rows[:at]))
            told_error(self, InvalidText, 6, Board.read, "\n".join(rows[:at] + [rows[at]] + rows[at:]))
        told_error(self, InvalidText, 6, Board.read, "\n".join(rows) + "\n")
        told_error(self, InvalidText, 6, Board.read, "\n".join(rows) + "\n000\n000")


class TestSettings(unittest.TestCase):
    def test_all(self):
        for sizes in ((), (1,), (3,), (2, 3), (3, 1, 2), (2, 2, 2, 2), (1, 1), (3,) * 6):
            settings = settings_of(sizes)
            self.assertEqual(all_settings(sizes), tuple(settings))
            self.assertEqual(all_settings(sizes=list(sizes)), tuple(settings))
            for number, setting in enumerate(settings):
                self.assertEqual(setting_number(sizes, setting), number)
                self.assertEqual(setting_number(sizes=list(sizes), setting=list(setting)), number)
                self.assertEqual(nth_setting(sizes, number), setting)
                self.assertEqual(nth_setting(sizes=list(sizes), number=number), setting)
                self.assertTrue(is_setting(sizes, setting))
                self.assertFalse(is_setting(sizes=list(sizes), value=list(setting)))
        self.assertEqual((all_settings(()), setting_number((), ()), nth_setting((), 0)), (((),), 0, ()))
        self.assertEqual(len(all_settings((20000,))), 20000)

    def test_what_is_a_setting(self):
        for sizes in ((), (1,), (2,), (2, 2), (1, 2), (2, 2, 3)):
            right = settings_of(sizes)
            for value in any_values():
                told = isinstance(value, tuple) and all(type(part) is int for part in value) and value in right
                self.assertIs(is_setting(sizes, value), told)
        self.assertIs(is_setting((2, 2), (0, True)), False)


class TestLots(unittest.TestCase):
    def test_need_board(self):
        for value in any_values():
            if isinstance(value, Board):
                self.assertIs(need_board(value), value)
            else:
                told_error(self, InvalidBoard, -1, need_board, value)

    def test_need_lot(self):
        board = Board(2, (2, 2, 2), (0,) * 8)
        for lot in lots_of(3):
            self.assertEqual(need_lot(board, lot), lot)
            self.assertEqual(need_lot(board=board, value=list(lot)), lot)
        for value in (None, 0, "0", (), [], {}, board):
            told_error(self, InvalidLot, -1, need_lot, board, value)
        for value, at in (((0, 0), 1), ((1, 0), 1), ((3,), 0), ([0, 1, 3], 2), ((-1,), 0), ((True,), 0), ((0, "1"), 1),
                          ((0, 2, 1), 2), (((0,),), 0), ((0, 1, 2, 2), 3), ((0, True), 1), ((None, 0), 0)):
            told_error(self, InvalidLot, at, need_lot, board, value)
        for value in any_values():
            try:
                self.assertIn(need_lot(board, value), lots_of(3))
            except InvalidLot as wrong:
                self.assertIs(type(wrong.at), int)

    def test_contents(self):
        rng = seeded(7)
        for _ in range(40):
            board = random_board(rng)
            for lot in [()] + lots_of(len(board)):
                others = rest(len(board), lot)
                self.assertEqual(rest_of(board, lot), others)
                inner = settings_of(pick(board.sizes, lot))
                outer = settings_of(pick(board.sizes, others))
                self.assertEqual(lot_contents(board=board, lot=lot), tuple(inner))
                marks = []
                for u in inner:
                    joined = [joined_setting(board, lot, u, w) for w in outer]
                    for setting, w in zip(joined, outer):
                        self.assertEqual((pick(setting, lot), pick(setting, others)), (u, w))
                        self.assertEqual(parted_setting(board, lot, setting), (u, w))
                    marks.append(tuple(board(setting) for setting in joined))
                self.assertEqual(lot_marks(board, lot), tuple(marks))
                self.assertEqual(lot_marks(board, list(lot)), tuple(marks))
                self.assertFalse(has_lists(lot_marks(board, as_lists(lot))))

    def test_by_names(self):
        board = Board(2, (2, 3), (0, 1, 0, 1, 0, 1))
        self.assertEqual(rest_of(board=board, lot=(1,)), (0,))
        self.assertEqual(joined_setting(board=board, lot=(1,), inside=(2,), outside=(1,)), (1, 2))
        self.assertEqual(parted_setting(board=board, lot=(1,), setting=(1, 2)), ((2,), (1,)))
        self.assertEqual(lot_marks(board=board, lot=(0,)), ((0, 1, 0), (1, 0, 1)))
        self.assertEqual(lot_marks(board, ()), ((0, 1, 0, 1, 0, 1),))


if __name__ == "__main__":
    unittest.main()
