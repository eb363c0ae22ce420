"""[17]: arrows, and the least one-test lot above a lot with a full part."""

import itertools
import time
import unittest

from oncetested.arrows import arrow_no, arrow_rows, reached_lot
from oncetested.boards import Board
from oncetested.errors import InvalidLot
from oncetested.looks import is_full, no_holds
from shaping import SIX, kinds_of_boards, looked_lots, looks_one_test, tree_board
from support import (any_values, as_lists, cycle_rows, fair_board, has_lists, lots_of, odd_board, pick, random_board, rest,
                     seeded, settings_of, told_error)


def sought_no(board, part, pivot, outside):
    """The first no of the lot of part and pivot whose w and x differ in one part alone, by all looks."""
    lot = tuple(sorted((part, pivot)))
    others = rest(len(board), lot)
    place = others.index(outside)
    looks = {(pick(setting, lot), pick(setting, others)): board(setting) for setting in settings_of(board.sizes)}
    inner, outer = settings_of(pick(board.sizes, lot)), settings_of(pick(board.sizes, others))
    found = []
    for u, v in itertools.combinations(inner, 2):
        for w, x in itertools.permutations(outer, 2):
            if [at for at, content in enumerate(w) if content != x[at]] == [place]:
                if looks[u, w] == looks[v, w] and looks[u, x] != looks[v, x]:
                    found.append((sum(a != b for a, b in zip(u, v)), (u, v, w, x)))
    return min(found)[1] if found else None


def boards(number, count):
    rng = seeded(number)
    for at in range(count):
        if at % 2:
            many = rng.randint(2, 4)
            yield fair_board(rng, many, rng.randint(2, 4 if many < 4 else 3))
        else:
            yield random_board(rng)


def full_parts(board):
    return [part for part in range(len(board)) if is_full(board, part)]


class TestArrows(unittest.TestCase):
    def test_by_a_search(self):
        found = set()
        for board in list(boards(1, 60)) + [odd_board()]:
            for pivot in range(len(board)):
                rows = arrow_rows(board=board, pivot=pivot)
                self.assertFalse(has_lists(rows))
                self.assertEqual((len(rows), rows[pivot]), (len(board), ()))
                for part, outside in itertools.permutations(rest(len(board), (pivot,)), 2):
                    no = sought_no(board, part, pivot, outside)
                    self.assertEqual(arrow_no(board, part, pivot, outside), no)
                    self.assertEqual(arrow_no(board=board, part=part, pivot=pivot, outside=outside), no)
                    self.assertIs(outside in rows[part], no is not None)
                    found.add(no is None)
                    if no is not None:
                        self.assertTrue(no_holds(board, tuple(sorted((part, pivot))), no))
                for row in rows:
                    self.assertEqual(list(row), sorted(set(row)))
        self.assertEqual(len(found), 2)

    def test_by_hand(self):
        self.assertEqual(arrow_no(odd_board(), 0, 1, 2), ((0, 0), (2, 2), (2,), (0,)))
        self.assertEqual(arrow_no(odd_board(), 1, 0, 2), ((0, 0), (2, 2), (2,), (0,)))
        self.assertEqual(arrow_rows(odd_board(), 1), ((2,), (), (0,)))
        line = tree_board(6, ("line", (0, 1, 2)), {"line": SIX})
        self.assertEqual(arrow_rows(line, 0), ((), (), (1,)))
        self.assertEqual(arrow_rows(line, 1), ((), (), ()))
        self.assertEqual(arrow_rows(Board(2, (2,), (0, 0)), 0), ((),))

    def test_wrong_parts(self):
        board = tree_board(2, ("free", (0, 1, 2, 3)), {"free": cycle_rows(2)})
        for value in any_values() + [4, -1]:
            if not (type(value) is int and 0 <= value < 4):
                told_error(self, InvalidLot, 0, arrow_no, board, value, value, value)
                told_error(self, InvalidLot, 1, arrow_no, board, 0, value, value)
                told_error(self, InvalidLot, 2, arrow_no, board, 0, 3, value)
                told_error(self, InvalidLot, 0, arrow_rows, board, value)
        for values, at in (((0, 0, 1), 1), ((0, 1, 0), 2), ((0, 1, 1), 2), ((2, 2, 2), 1), ((0, 0, 9), 1), ((9, 0, 0), 0)):
            told_error(self, InvalidLot, at, arrow_no, board, *values)


class TestReached(unittest.TestCase):
    def test_least_lots_that_no_arrow_leaves(self):
        rng = seeded(2)
        for _ in range(40):
            many = rng.randint(1, 6)
            rows = tuple(tuple(sorted(rng.sample(rest(many, (part,)), rng.randint(0, min(2, many - 1))))) for part in range(many))
            for lot in lots_of(many):
                kept = [set(other) for other in lots_of(many) if set(lot) <= set(other) and all(set(rows[part]) <= set(other) for part in other)]
                least = tuple(sorted(set.intersection(*kept)))
                self.assertEqual(reached_lot(rows, lot), least)
                self.assertEqual(reached_lot(rows=as_lists(rows), lot=list(lot)), least)

    def test_lots_with_a_full_part(self):
        seen = set()
        for board in list(boards(3, 60)) + [board for board, _ in kinds_of_boards(seeded(4)) if len(board.marks) < 300]:
            one_test = looked_lots(board)
            for pivot in full_parts(board):
                rows = arrow_rows(board, pivot)
                for lot in lots_of(len(board)):
                    if pivot in lot:
                        left = any(set(rows[part]) - set(lot) for part in lot)
                        self.assertIs(lot in one_test, not left)
                        above = [other for other in one_test if set(lot) <= set(other)]
                        reached = reached_lot(rows, lot)
                        self.assertIn(reached, above)
                        self.assertTrue(all(set(reached) <= set(other) for other in above))
                        seen.add((left, reached == lot))
        self.assertEqual(len(seen), 2)

    def test_512_settings(self):
        started = time.time()
        rng = seeded(5)
        eight = Board(8, (8, 8, 8), [(x + y) % 8 ^ z for x, y, z in settings_of((8, 8, 8))])
        self.assertEqual([reached_lot(arrow_rows(eight, pivot), (pivot,)) for pivot in range(3)], [(0,), (1,), (2,)])
        self.assertEqual(arrow_no(eight, 0, 2, 1), ((0, 0), (1, 1), (0,), (1,)))
        for sizes in ((16, 16, 2), (2,) * 8, (2, 16, 16), (8, 8, 8), (22, 22)):
            board = Board(4, sizes, [rng.randrange(4) for _ in settings_of(sizes)])
            for pivot in range(len(sizes)):
                rows = arrow_rows(board, pivot)
                for part in range(len(sizes)):
                    for outside in rows[part]:
                        self.assertTrue(no_holds(board, tuple(sorted((part, pivot))), arrow_no(board, part, pivot, outside)))
        self.assertLess(time.time() - started, 20)
        self.assertTrue(looks_one_test(eight, (0, 1)))


if __name__ == "__main__":
    unittest.main()
