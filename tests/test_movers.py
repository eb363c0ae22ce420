"""[65], [66]: movers of parts, paired movers, rows that serve several partners."""

import itertools
import time
import unittest

from oncetested.boards import Board
from oncetested.errors import InvalidLot, Refused
from oncetested.movers import full_partners, mover_holds, paired_movers, part_movers, serving_rows
from oncetested.renewals import is_renewal, lot_renewals
from shaping import BITS, EIGHT_BITS, FOUR, SIX, SQUARE, tree_board
from support import (any_values, as_lists, cycle_rows, fair_board, has_lists, lots_of, odd_board, rest, seeded, settings_of,
                     sums_board, told_error)

NOT_FAIR = Board(2, (2, 2), (0, 0, 1, 1))


def boards(number, count):
    rng = seeded(number)
    yield rng, odd_board()
    yield rng, sums_board()
    yield rng, tree_board(4, ("bare", (("bare", (0, 1)), 2)), {"bare": BITS})
    yield rng, tree_board(4, ("free", (0, 1, ("bare", (2, 3)))), {"free": FOUR, "bare": BITS})
    yield rng, Board(3, (3,), (2, 0, 1))
    for _ in range(count):
        many = rng.randint(2, 4)
        yield rng, fair_board(rng, many, rng.randint(1, 4 if many < 4 else 3))


def led(setting, part, row):
    return setting[:part] + (row[setting[part]],) + setting[part + 1:]


def tried_movers(board, part):
    """All movers, by trying each row."""
    found = []
    for row in itertools.permutations(range(board.many)):
        marks = {}
        for setting in settings_of(board.sizes):
            marks.setdefault(board(setting), set()).add(board(led(setting, part, row)))
        if all(len(one) == 1 for one in marks.values()):
            found.append((row, tuple(marks[mark].pop() for mark in range(board.many))))
    return tuple(sorted(found))


def undone(row):
    return tuple(row.index(content) for content in range(len(row)))


class TestMovers(unittest.TestCase):
    def test_by_trying_all_rows(self):
        counts = set()
        for _, board in boards(1, 40):
            for part in range(len(board)):
                if len(board) == 1:
                    told_error(self, Refused, 0, part_movers, board, 0)
                    continue
                movers = tried_movers(board, part)
                self.assertEqual(part_movers(board, part), movers)
                self.assertEqual(part_movers(board=board, part=part), movers)
                self.assertFalse(has_lists(movers))
                idle = tuple(range(board.many))
                self.assertEqual(movers[0], (idle, idle))
                self.assertEqual(board.many % len(movers), 0)
                for row, marks in movers[1:]:
                    self.assertFalse(any(row[c] == c or marks[c] == c for c in range(board.many)))
                counts.add((board.many, len(movers)))
        self.assertTrue({(2, 2), (3, 3), (4, 1), (4, 2), (4, 4)} <= counts)

    def test_values(self):
        for rng, board in boards(2, 20):
            if len(board) == 1:
                continue
            for part in range(len(board)):
                movers = tried_movers(board, part)
                for row, marks in movers:
                    self.assertIs(mover_holds(board, part, (row, marks)), True)
                    self.assertIs(mover_holds(board=board, part=part, value=(row, marks)), True)
                    for value in ([row, marks], (list(row), marks), (row, list(marks)), (row,), (row, marks, row), (marks[::-1], row), (row, None),
                                  (row, marks[:-1]), (row + (0,), marks), (tuple(map(bool, row)), marks), (row, tuple(map(bool, marks))), row):
                        self.assertIs(mover_holds(board, part, value), value in movers and type(value[0][0]) is int and type(value[1][0]) is int)
                for _ in range(20):
                    value = tuple(tuple(rng.sample(range(board.many), board.many)) for _ in range(2))
                    self.assertIs(mover_holds(board, part, value), value in movers)
        for value in any_values():
            self.assertIs(mover_holds(sums_board(), 1, value), False)
        two = Board(2, (2, 2), (0, 1, 1, 0))
        self.assertIs(mover_holds(two, 0, ((1, 0), (1, 0))), True)
        self.assertIs(mover_holds(two, 0, ((True, False), (1, 0))), False)
        self.assertIs(mover_holds(two, 0, ((1, 0), (True, False))), False)
        self.assertIs(mover_holds(two, 0, ((0, 0), (0, 0))), False)

    def test_marks_are_led_in_either_order_to_the_same(self):
        for _, board in boards(3, 20):
            for one, other in itertools.permutations(range(len(board)), 2):
                for (_, a), (_, b) in itertools.product(part_movers(board, one), part_movers(board, other)):
                    self.assertEqual([a[b[mark]] for mark in range(board.many)], [b[a[mark]] for mark in range(board.many)])

    def test_paired_movers(self):
        counts = set()
        for _, board in boards(4, 40):
            for lot in itertools.combinations(range(len(board)), 2):
                one, other = tried_movers(board, lot[0]), tried_movers(board, lot[1])
                told = tuple(sorted((row, undone(beside)) for row, marks in one for beside, also in other if marks == also))
                self.assertEqual(paired_movers(board, lot), told)
                self.assertEqual(paired_movers(board=board, lot=list(lot)), told)
                self.assertFalse(has_lists(told))
                for rows in told:
                    self.assertIs(is_renewal(board, lot, rows), True)
                counts.add((board.many, len(told)))
        self.assertTrue({(4, 1), (4, 2), (4, 4)} <= counts)

    def test_errors(self):
        for call, further in ((part_movers, ()), (mover_holds, (None,)), (full_partners, ()), (serving_rows, (None,)), (paired_movers, ())):
            told_error(self, Refused, ("twice", 1, (0, 0), 1), call, NOT_FAIR, None, *further)
            told_error(self, Refused, ("size", 1), call, Board(2, (2, 3), (0,) * 6), 9, *further)
        for value in any_values() + [3, -1]:
            if not (type(value) is int and 0 <= value < 3):
                for call, further in ((part_movers, ()), (mover_holds, (None,)), (full_partners, ()), (serving_rows, (None,))):
                    told_error(self, InvalidLot, 0, call, odd_board(), value, *further)
        alone = Board(2, (2,), (1, 0))
        told_error(self, Refused, 0, part_movers, alone, 0)
        told_error(self, Refused, 0, mover_holds, alone, 0, None)
        told_error(self, InvalidLot, 0, part_movers, alone, 1)
        self.assertEqual(full_partners(alone, 0), ())
        for lot, at in ((None, -1), ((), -1), ((3, 4), 0), ((1, 1), 1), ([2, 1], 1), ((True, 2), 0)):
            told_error(self, InvalidLot, at, paired_movers, odd_board(), lot)


class TestPartners(unittest.TestCase):
    def test_serving_rows(self):
        counts = set()
        line = tree_board(6, ("line", (0, 1, 2)), {"line": SIX})
        for _, board in list(boards(5, 40)) + [(None, line)]:
            for part in range(len(board)):
                others = rest(len(board), (part,))
                rows = {}
                for other in others:
                    lot = tuple(sorted((part, other)))
                    rows[other] = {renewal[lot.index(part)] for renewal in lot_renewals(board, lot)}
                for many in range(1, len(others) + 1):
                    for partners in itertools.combinations(others, many):
                        told = tuple(sorted(set.intersection(*[rows[other] for other in partners])))
                        self.assertEqual(serving_rows(board, part, partners), told)
                        self.assertEqual(serving_rows(board=board, part=part, partners=list(partners)), told)
                        self.assertFalse(has_lists(told))
                        counts.add((many, len(told)))
                full = tuple(other for other in others if len(rows[other]) == board.many)
                self.assertEqual(full_partners(board, part), full)
                self.assertEqual(full_partners(board=board, part=part), full)
                self.check_orders(board, part, rows)
        self.assertTrue({(1, 1), (1, 2), (1, 4), (1, 6), (2, 4), (2, 2), (2, 1)} <= counts)

    def check_orders(self, board, part, rows):
        def in_either_order(p, q):
            self.assertEqual([p[q[c]] for c in range(board.many)], [q[p[c]] for c in range(board.many)])
        for one, other in itertools.permutations(rows, 2):
            for p, q in itertools.product(rows[one], rows[other]):
                in_either_order(p, q)
            for p in rows[one] & rows[other]:
                for q in rows[one]:
                    in_either_order(p, q)
        movers = [row for row, _ in part_movers(board, part)] if len(board) > 1 else []
        for row in movers:
            for p in set().union(*rows.values()):
                in_either_order(row, p)

    def test_two_partners_and_their_rows(self):
        seen = 0
        for _, board in boards(6, 30):
            for part in range(len(board)):
                for one, other in itertools.combinations(rest(len(board), (part,)), 2):
                    for row in serving_rows(board, part, (one, other)):
                        beside = []
                        for partner in (one, other):
                            lot = tuple(sorted((part, partner)))
                            found = [rows for rows in lot_renewals(board, lot) if rows[lot.index(part)] == row]
                            self.assertEqual(len(found), 1)
                            beside.append(found[0][lot.index(partner)])
                        self.assertIs(is_renewal(board, (one, other), (beside[0], undone(beside[1]))), True)
                        seen += 1
        self.assertGreater(seen, 30)

    def test_three_full_partners(self):
        for rows in (cycle_rows(2), cycle_rows(3), FOUR):
            board = tree_board(len(rows), ("free", (0, 1, 2, 3)), {"free": rows})
            for part in range(4):
                self.assertEqual(full_partners(board, part), rest(4, (part,)))
            for lot in itertools.combinations(range(4), 2):
                self.assertEqual(len(lot_renewals(board, lot)), board.many)

    def test_partners_of_any_values(self):
        board = tree_board(2, ("free", (0, 1, 2, 3)), {"free": cycle_rows(2)})
        for value in any_values():
            if not isinstance(value, (list, tuple)) or len(value) == 0:
                told_error(self, InvalidLot, -1, serving_rows, board, 2, value)
        for partners, at in (((4,), 0), ((0, 0), 1), ([1, 0], 1), ((True,), 0), ((2,), 0), ((0, 1, 2), 2), ([1, 2, 3], 1), ((2, 9), 1), ((0, 2, 2), 2)):
            told_error(self, InvalidLot, at, serving_rows, board, 2, partners)
        told_error(self, InvalidLot, 0, serving_rows, Board(2, (2,), (0, 1)), 0, (0,))

    def test_knots_over_single_parts(self):
        for many, table, middle in ((6, SIX, 1), (8, SQUARE, 2)):
            line = tree_board(many, ("line", (0, 1, 2)), {"line": table})
            self.assertEqual([len(lot_renewals(line, lot)) for lot in ((0, 1), (1, 2), (0, 2))], [many, many, middle])
            self.assertEqual([len(part_movers(line, part)) for part in range(3)], [many, middle, many])
            self.assertEqual([full_partners(line, part) for part in range(3)], [(1,), (0, 2), (1,)])
            self.assertEqual(len(serving_rows(line, 1, (0, 2))), middle)
        for table in (FOUR, BITS, cycle_rows(5), EIGHT_BITS):
            many = len(table)
            free = tree_board(many, ("free", (0, 1, 2)), {"free": table})
            self.assertEqual([len(part_movers(free, part)) for part in range(3)], [many] * 3)
            self.assertEqual([full_partners(free, part) for part in range(3)], [(1, 2), (0, 2), (0, 1)])
            self.assertEqual([len(serving_rows(free, part, rest(3, (part,)))) for part in range(3)], [many] * 3)

    def test_limits(self):
        started = time.time()
        rng = seeded(7)
        for many, parts in ((8, 3), (2, 8), (4, 4), (7, 3), (3, 5)):
            for board in (fair_board(rng, many, parts), tree_board(many, ("free", tuple(range(parts))), {"free": cycle_rows(many)})):
                for part in range(parts):
                    for mover in part_movers(board, part):
                        self.assertIs(mover_holds(board, part, mover), True)
                    self.assertTrue(set(full_partners(board, part)) <= set(rest(parts, (part,))))
                    self.assertIn(tuple(range(many)), serving_rows(board, part, rest(parts, (part,))))
                for lot in lots_of(parts)[parts:2 * parts]:
                    self.assertIn((tuple(range(many)),) * 2, paired_movers(board, lot))
        self.assertLess(time.time() - started, 40)
        self.assertEqual(as_lists(part_movers(sums_board(), 0))[1], [[1, 2, 3, 0], [1, 2, 3, 0]])


if __name__ == "__main__":
    unittest.main()
