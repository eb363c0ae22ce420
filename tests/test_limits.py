"""[3]: functions at their limits."""

import unittest

from oncetested.boards import (Board, all_settings, joined_setting, lot_contents, lot_marks, nth_setting, parted_setting,
                               setting_number)
from oncetested.fair import fair_fault, fault_holds, is_fair
from oncetested.groups import (Group, centre_of, element_classes, extended_group, fewest_makers, group_matches,
                               order_profile, parting_makers, retest_ratio)
from oncetested.looks import cut_no, is_full, near_no, no_holds, pivot_no, smaller_no, stay_places
from oncetested.putting import (held_parts, layered_board, led_board, merged_board, put_board, put_boards, tied_board,
                                turned_board, twin_lots)
from oncetested.readings import knit_board, least_no, lot_paper, lot_reading, read_board
from oncetested.squares import open_square, square_group
from oncetested.trades import exchange_lots, exchanged_board, filled_marks, sum_board, sum_paper
from support import all_group_rows, cycle_rows, lots_of, seeded, settings_of

SIX = (3,) * 6


class TestBoards(unittest.TestCase):
    def test_729_settings(self):
        board = Board(3, SIX, [sum(setting) % 3 for setting in settings_of(SIX)])
        self.assertEqual(Board.read(board.text()), board)
        self.assertIs(is_fair(board), True)
        self.assertIs(fault_holds(board, ("twice", 5, (0,) * 6, 2)), False)
        for lot in [()] + lots_of(6):
            rows = lot_marks(board, lot)
            self.assertEqual(len(rows) * len(rows[0]), 729)
        for number, setting in enumerate(all_settings(SIX)):
            inside, outside = parted_setting(board, (1, 3, 5), setting)
            self.assertEqual(joined_setting(board, (1, 3, 5), inside, outside), setting)
            self.assertEqual((nth_setting(SIX, number), setting_number(SIX, setting)), (setting, number))
        self.assertEqual([is_full(board, part) for part in range(6)], [True] * 6)
        eight = Board(8, (3, 3, 3, 3, 3, 3), [number % 8 for number in range(729)])
        self.assertEqual(fair_fault(eight), ("size", 0))

    def test_20000_settings(self):
        sizes = (10, 10, 2, 10, 10)
        board = Board(7, sizes, [number % 7 for number in range(20000)])
        self.assertEqual(len(lot_contents(board, (0, 1, 2, 3))), 2000)
        self.assertEqual(Board.read(board.text()), board)
        self.assertEqual(len(all_settings(sizes)), 20000)
        self.assertEqual(setting_number(sizes, nth_setting(sizes, 19999)), 19999)


class TestLooks(unittest.TestCase):
    def test_512_settings_and_lots_of_7_parts(self):
        rng = seeded(1)
        sizes = (2,) * 7 + (4,)
        lot = tuple(range(7))
        board = Board(4, sizes, [rng.randrange(4) for _ in range(512)])
        count = 0
        for u, v in zip(lot_contents(board, lot), reversed(lot_contents(board, lot))):
            for w in stay_places(board, lot, u, v):
                for x in lot_contents(board, (7,)):
                    no = (u, v, w, x)
                    if no_holds(board, lot, no) and count < 4:
                        count += 1
                        self.assertTrue(no_holds(board, lot, near_no(board, lot, no)))
                        self.assertTrue(no_holds(board, lot, smaller_no(board, lot, no)))
                        self.assertTrue(no_holds(board, lot, cut_no(board, lot, no)))
        self.assertEqual(count, 4)

    def test_eight_marks(self):
        board = Board(8, (8, 8, 8), [(x + y) % 8 ^ z for x, y, z in settings_of((8, 8, 8))])
        no = ((0, 1), (1, 0), (0,), (1,))
        self.assertIs(no_holds(board, (0, 2), no), True)
        for part in (0, 2):
            self.assertTrue(no_holds(board, (0, 2), pivot_no(board, (0, 2), no, part)))


class TestPutting(unittest.TestCase):
    def test_729_settings(self):
        board = Board(3, SIX, [sum(setting) % 3 for setting in settings_of(SIX)])
        self.assertEqual(led_board(board, 5, (2, 1, 0, 0, 1, 2, 2, 2)).sizes, (3, 3, 3, 3, 3, 8))
        self.assertEqual(turned_board(board, (5, 4, 3, 2, 1, 0)), board)
        self.assertEqual(held_parts(board, [(0, 1), (5, 2)]), held_parts(board, [(5, 0), (0, 0)]))
        self.assertEqual(layered_board([board] * 20, 6).sizes, SIX + (20,))
        self.assertEqual(merged_board(board), board)
        self.assertEqual(twin_lots(board, 3), ((0,), (1,), (2,)))
        self.assertEqual(tied_board(board, (0, 2, 4)).sizes, (27, 27))
        self.assertEqual(merged_board(tied_board(board, (0, 2, 4))).sizes, (3, 3))
        two = Board(3, (3, 3), [(x - y) % 3 for x, y in settings_of((3, 3))])
        self.assertEqual(put_boards(Board(3, (3, 3, 3), board.marks[:27]), (two, two, two)).sizes, SIX)
        self.assertEqual(put_board(board, 2, two).sizes, (3,) * 7)
        self.assertEqual(sum_paper(board), (0, ((0, 1, 2),) * 6))

    def test_trades(self):
        rng = seeded(2)
        for many, parts in ((4, 3), (5, 2), (6, 2)):
            board = sum_board(many, -999999, [[999999 * content for content in range(many)]] * parts)
            if not is_fair(board):
                board = sum_board(many, 3, [list(range(many))] * parts)
            lots = exchange_lots(board, 0, many - 1)
            self.assertTrue(is_fair(exchanged_board(board, 0, many - 1, rng.choice(lots))))
            marks = list(board.marks)
            for number in rng.sample(range(len(marks)), 2 ** parts - 1):
                marks[number] = None
            self.assertEqual(filled_marks(many, parts, marks), board.marks)


class TestReadings(unittest.TestCase):
    def test_512_settings(self):
        sizes = (8, 8, 8)
        board = Board(8, sizes, [(x + y) % 8 ^ z for x, y, z in settings_of(sizes)])
        self.assertEqual(len(lot_reading(board, (0, 1))[1]), 8)
        self.assertEqual(read_board(board, (0, 1)).sizes, (8, 8))
        self.assertEqual(knit_board(board, (0, 1)).sizes, (8, 8))
        self.assertEqual(lot_paper(board, (1, 2))[0], "no")
        self.assertEqual(least_no(board, (1, 2)), ((0, 0), (1, 1), (0,), (1,)))


class TestSquares(unittest.TestCase):
    def test_12_rows(self):
        rows = [list(row) for row in cycle_rows(12)]
        self.assertEqual(square_group(rows), Group(cycle_rows(12)))
        self.assertIsNone(open_square(rows))
        rows[0][0], rows[0][6], rows[6][0], rows[6][6] = rows[0][6], rows[0][0], rows[6][6], rows[6][0]
        self.assertIsNone(square_group(rows))
        self.assertIsNotNone(open_square(rows))


class TestGroups(unittest.TestCase):
    def test_12_elements(self):
        many_matches = []
        for rows in all_group_rows():
            if len(rows) == 12:
                group = Group([list(row) for row in rows])
                many_matches.append(len(group_matches(group, group)))
                self.assertEqual(sum(count for _, count in order_profile(group)), 12)
                self.assertEqual(group.product([11] * 40), group.power(11, 40))
                self.assertLessEqual(len(parting_makers(group)), len(fewest_makers(group)))
                many, whole = retest_ratio(group)
                self.assertEqual(len(element_classes(group)) * whole, many * 12)
                self.assertEqual(12 % len(centre_of(group)), 0)
        self.assertEqual(sorted(many_matches), [4, 12, 12, 12, 24])
        self.assertEqual(extended_group(Group(cycle_rows(12)), tuple(range(12)), 1, 0), Group(cycle_rows(12)))


if __name__ == "__main__":
    unittest.main()
