"""[39], [40]: names of wires, groups of knots, other bases, boards of groups."""

import itertools
import math
import time
import unittest

from oncetested.boards import Board
from oncetested.errors import InvalidBoard, InvalidLot, InvalidRow, InvalidSetting, InvalidSize, Refused
from oncetested.groups import Group, group_match, is_commutative
from oncetested.knots import (group_board, knot_boards, knot_group, naming_row, other_naming, wire_board, wire_names,
                              wire_square)
from oncetested.trees import shape_of
from shaping import BITS, EIGHT_BITS, FOUR, SIX, SQUARE, folded, kinds_of_boards, knots, looked_lots, lot_of, tree_board
from support import (all_group_rows, any_values, as_lists, cycle_rows, fair_board, has_lists, mixed_group,
                     named_table, odd_board, permutation_rows, seeded, settings_of, sums_board, told_error)

NOT_FAIR = Board(2, (2, 2), (0, 0, 1, 1))


def name(board, lot, contents, base):
    told = dict(zip(lot, contents))
    return board(tuple(told.get(part, content) for part, content in enumerate(base)))


def boards(number):
    rng = seeded(number)
    for board, _ in kinds_of_boards(rng):
        if len(board.marks) < 600:
            yield rng, board
    for _ in range(20):
        many = rng.randint(2, 5)
        yield rng, fair_board(rng, many, rng.randint(1, 4 if many < 4 else 3))


def random_setting(rng, board):
    return tuple(rng.randrange(board.many) for _ in range(len(board)))


def apart(lots):
    """Rows of two lots or three without common parts."""
    for many in (2, 3):
        for row in itertools.permutations(lots, many):
            if len({part for lot in row for part in lot}) == sum(map(len, row)):
                yield row


class TestErrors(unittest.TestCase):
    CALLS = [(lambda board, lot, base: wire_names(board, lot, base)), (lambda board, lot, base: wire_board(board, [lot], base)),
             (lambda board, lot, base: wire_board(board, ((2,), lot), base)), (lambda board, lot, base: wire_square(board, lot, (2,), base)),
             (lambda board, lot, base: wire_square(board, (2,), lot, base)), (lambda board, lot, base: knot_group(board, [(2,), lot, (2,)], base)),
             (lambda board, lot, base: naming_row(board, lot, base, base)), (lambda board, lot, base: naming_row(board, lot, base, None))]

    def test_in_order(self):
        board = odd_board()
        for call in self.CALLS:
            told_error(self, Refused, ("twice", 1, (0, 0), 1), call, NOT_FAIR, None, None)
            told_error(self, Refused, ("size", 1), call, Board(2, (2, 3), (0,) * 6), (9,), None)
            for value in any_values():
                if not isinstance(value, (list, tuple)) or len(value) == 0:
                    told_error(self, InvalidLot, -1, call, board, value, None)
            for lot, at in (((3,), 0), ((0, 0), 1), ([2, 1], 1), ((True,), 0), ((0, 1, 2, 3), 3)):
                told_error(self, InvalidLot, at, call, board, lot, None)
            told_error(self, Refused, (0, 1), call, board, [0, 1], None)
            told_error(self, Refused, (1, 2), call, board, (1, 2), (9, 9, 9))
            for base, at in ((None, -1), ((0, 0), -1), ((0, 0, 4), 2), ([0, True, 9], 1), ("000", -1), ((0, 0, 0, 0), -1), ((-1, 0, 0), 0)):
                told_error(self, InvalidSetting, at, call, board, (0,), base)

    def test_all_lots_go_ahead_of_those_that_are_not_one_test(self):
        board = odd_board()
        told_error(self, InvalidLot, 0, wire_board, board, [(0, 1), (9,)], None)
        told_error(self, InvalidLot, 1, wire_square, board, (0, 1), (2, 2), None)
        told_error(self, InvalidLot, -1, knot_group, board, [(0, 1), (0, 2), ()], None)
        told_error(self, Refused, (0, 2), knot_group, board, [(1,), (0, 2), (0, 1)], None)

    def test_bases_of_rows(self):
        board = odd_board()
        told_error(self, InvalidSetting, 2, naming_row, board, (0,), (0, 0, 4), (9, 9, 9))
        told_error(self, InvalidSetting, 0, naming_row, board, (0,), (0, 0, 3), (9, 9, 9))
        told_error(self, InvalidSetting, -1, naming_row, board, [0], [0, 0, 3], ())

    def test_neighbours(self):
        line = tree_board(6, ("line", (0, 1, 2, 3)), {"line": SIX})
        zeros = (0,) * 4
        told_error(self, Refused, 0, knot_group, line, [(0,), (2,), (1,)], zeros)
        told_error(self, Refused, 1, knot_group, line, ((0,), (1,), (3,)), zeros)
        told_error(self, Refused, 2, knot_group, line, ((1,), (2,), (3,), (0,)), zeros)
        told_error(self, InvalidSetting, -1, knot_group, line, [(0,), (2,), (1,)], ())
        self.assertEqual(knot_group(line, [(0, 1), (2,), (3,)], zeros), Group(SIX))


class TestNames(unittest.TestCase):
    def test_names_boards_and_squares(self):
        for rng, board in boards(1):
            lots = looked_lots(board)
            for lot in lots:
                base = random_setting(rng, board)
                told = tuple(name(board, lot, contents, base) for contents in settings_of((board.many,) * len(lot)))
                self.assertEqual(wire_names(board, lot, base), told)
                self.assertEqual(wire_names(board=board, lot=list(lot), base=list(base)), told)
                self.check_wires(board, (lot,), base)
            rows = list(apart(lots))
            for row in rng.sample(rows, min(len(rows), 12)):
                self.check_wires(board, row, random_setting(rng, board))

    def check_wires(self, board, lots, base):
        told = wire_board(board, lots, base)
        self.assertEqual(wire_board(board=board, lots=as_lists(lots), base=list(base)), told)
        self.assertEqual((told.many, told.sizes), (board.many, (board.many,) * len(lots)))
        seen = set()
        for setting in settings_of(board.sizes)[::max(1, len(board.marks) // 200)]:
            names = tuple(name(board, lot, [setting[part] for part in lot], base) for lot in lots)
            inside = tuple(setting[part] if any(part in lot for lot in lots) else content for part, content in enumerate(base))
            self.assertEqual(told(names), board(inside))
            seen.add(names)
        if len(lots) == 2:
            rows = tuple(tuple(told((x, y)) for y in range(board.many)) for x in range(board.many))
            self.assertEqual(wire_square(board, lots[0], lots[1], base), rows)
            self.assertEqual(wire_square(board=board, one=list(lots[0]), other=list(lots[1]), base=list(base)), rows)
            self.assertFalse(has_lists(rows))


class TestKnotGroups(unittest.TestCase):
    def lots_of_knots(self, board):
        for kind, children in knots(shape_of(board)):
            if kind != "bare":
                yield kind, lot_of((kind, children)), [lot_of(child) for child in children]

    def test_groups_at_each_base(self):
        kinds = set()
        for rng, board in boards(2):
            for kind, whole, lots in self.lots_of_knots(board):
                for base in [(0,) * len(board)] + [random_setting(rng, board) for _ in range(5)]:
                    group = knot_group(board, lots, base)
                    self.assertEqual(knot_group(board=board, lots=as_lists(lots), base=list(base)), group)
                    wires = wire_board(board, lots, base)
                    for setting in settings_of(wires.sizes)[::7]:
                        self.assertEqual(wires(setting), folded(group.rows, setting))
                    self.assertIs(is_commutative(group), kind == "free")
                    self.assertEqual(group.unit, board(base))
                    backwards = knot_group(board, lots[::-1], base)
                    self.assertEqual(backwards.rows, tuple(zip(*group.rows)))
                    kinds.add((kind, board.many))
                    self.check_other_base(board, whole, lots, base, random_setting(rng, board))
        self.assertTrue({("line", 6), ("line", 8), ("free", 4), ("free", 2)} <= kinds)

    def check_other_base(self, board, whole, lots, base, other):
        group, beside = knot_group(board, lots, base), knot_group(board, lots, other)
        row = naming_row(board, whole, base, other)
        u = name(board, whole, [other[part] for part in whole], base)
        again = other_naming(group, u)
        for x, y in itertools.product(range(board.many), repeat=2):
            self.assertEqual(beside.rows[row[x]][row[y]], row[group.product((x, group.undone[u], y))])
            self.assertEqual(beside.rows[row[x]][row[y]], row[again.rows[x][y]])

    def test_unions_of_lots_that_are_no_neighbours(self):
        for _, board in boards(3):
            one_test = looked_lots(board)
            for kind, _, lots in self.lots_of_knots(board):
                for at, one in enumerate(lots):
                    for further, other in enumerate(lots[at + 1:], at + 1):
                        union = tuple(sorted(one + other))
                        self.assertIs(union in one_test, kind == "free" or further == at + 1)

    def test_naming_rows(self):
        for rng, board in boards(4):
            for lot in looked_lots(board):
                base, other = random_setting(rng, board), random_setting(rng, board)
                row = naming_row(board, lot, base, other)
                self.assertEqual(naming_row(board=board, lot=list(lot), base=list(base), other=list(other)), row)
                self.assertEqual(sorted(row), list(range(board.many)))
                self.assertIsInstance(row, tuple)
                for contents in settings_of((board.many,) * len(lot)):
                    self.assertEqual(row[name(board, lot, contents, base)], name(board, lot, contents, other))
                self.assertEqual(naming_row(board, lot, base, base), tuple(range(board.many)))

    def test_other_namings(self):
        rng = seeded(5)
        for rows in all_group_rows():
            group = mixed_group(rng, rows)
            for mark in range(group.size):
                told = other_naming(group, mark)
                self.assertEqual(told.rows, tuple(tuple(group.product((x, group.undone[mark], y)) for y in range(group.size)) for x in range(group.size)))
                self.assertEqual(told.unit, mark)
                self.assertIsNotNone(group_match(told, group))
            self.assertEqual(other_naming(group=group, mark=group.unit), group)
        for value in any_values() + [6, -1]:
            if not (type(value) is int and 0 <= value < 6):
                told_error(self, InvalidSize, "element", other_naming, Group(SIX), value)


class TestGroupBoards(unittest.TestCase):
    def test_products(self):
        rng = seeded(6)
        for rows in all_group_rows():
            size = len(rows)
            if 2 <= size <= 8:
                group = mixed_group(rng, rows)
                for parts in (1, 2, 3):
                    told = tuple(tuple(rng.sample(range(size), size)) for _ in range(parts))
                    board = group_board(group, told)
                    self.assertEqual(group_board(group=group, rows=as_lists(told)), board)
                    self.assertEqual((board.many, board.sizes), (size, (size,) * parts))
                    for setting in settings_of(board.sizes)[::3]:
                        self.assertEqual(board(setting), group.product([row[content] for row, content in zip(told, setting)]))
        eight = group_board(Group(cycle_rows(2)), ((1, 0),) * 8)
        self.assertEqual((len(eight), eight((0,) * 8)), (8, 0))
        self.assertEqual(len(group_board(Group(FOUR), (tuple(range(4)),) * 7).marks), 16384)

    def test_wrong_rows(self):
        group = Group(cycle_rows(3))
        for value in any_values():
            if not isinstance(value, (list, tuple)) or len(value) == 0:
                told_error(self, InvalidRow, -1, group_board, group, value)
        told_error(self, InvalidRow, -1, group_board, group, ((0, 1, 2),) * 9)
        for value in any_values() + [(0, 1), (0, 1, 1), (0, 1, 2, 3), (0, True, 2), "012", (0, 1, 3)]:
            if value not in ((0, 1, 2), [0, 1, 2]):
                told_error(self, InvalidRow, 0, group_board, group, (value, None))
                told_error(self, InvalidRow, 2, group_board, group, [(2, 1, 0), [0, 1, 2], value])

    def test_then_as_boards(self):
        told_error(self, InvalidBoard, "many", group_board, Group(((0,),)), [(0,)])
        for size in (9, 10, 11, 12):
            told_error(self, InvalidBoard, "many", group_board, Group(cycle_rows(size)), (tuple(range(size)),) * 8)
            told_error(self, InvalidRow, 1, group_board, Group(cycle_rows(size)), (tuple(range(size)), None))
        for size, parts in ((8, 5), (8, 8), (4, 8), (5, 7), (6, 6), (7, 6), (7, 8)):
            told_error(self, InvalidSize, "settings", group_board, Group(cycle_rows(size)), (tuple(range(size)),) * parts)
        told_error(self, InvalidRow, 7, group_board, Group(cycle_rows(8)), (tuple(range(8)),) * 7 + ((),))

    def test_counts_by_trying_all(self):
        for rows, parts in ((cycle_rows(2), 2), (cycle_rows(2), 3), (cycle_rows(3), 2), (cycle_rows(3), 3), (FOUR, 2), (BITS, 2)):
            size = len(rows)
            found = set()
            groups = {named_table(rows, names) for names in itertools.permutations(range(size))}
            lines = list(itertools.permutations(range(size)))
            for table in groups:
                for told in itertools.product(lines, repeat=parts):
                    found.add(tuple(folded(table, [row[c] for row, c in zip(told, setting)]) for setting in settings_of((size,) * parts)))
            self.assertEqual(knot_boards(Group(rows), parts), len(found))
            self.assertEqual(knot_boards(group=Group(rows), parts=parts), len(found))

    def test_counts_of_many_parts(self):
        for rows, matches in ((FOUR, 2), (BITS, 6), (cycle_rows(5), 4), (SIX, 6), (SQUARE, 8), (EIGHT_BITS, 168), (cycle_rows(12), 4), (((0,),), 1)):
            size = len(rows)
            for parts in (2, 3, 8, 9, 60):
                told = knot_boards(Group(rows), parts)
                self.assertEqual(told * matches * size ** parts, math.factorial(size) ** (parts + 1))
        for value in any_values() + [1, 0, -2]:
            if not (type(value) is int and value >= 2):
                told_error(self, InvalidSize, "parts", knot_boards, Group(FOUR), value)
            elif value < 1000:
                self.assertGreater(knot_boards(Group(cycle_rows(2)), value), 0)


class TestLimits(unittest.TestCase):
    def test_2000_settings(self):
        started = time.time()
        rng = seeded(7)
        line = tree_board(6, ("line", (2, 0, 1, 3)), {"line": SIX})
        for _ in range(3):
            base, other = random_setting(rng, line), random_setting(rng, line)
            group = knot_group(line, [(2,), (0,), (1,), (3,)], base)
            self.assertIsNotNone(group_match(group, Group(SIX)))
            self.assertEqual(len(wire_names(line, (0, 1, 2), base)), 216)
            self.check_row(line, (0, 1, 2), base, other)
            self.assertEqual(wire_board(line, [(0, 2), (1,), (3,)], base).sizes, (6, 6, 6))
        free = tree_board(4, ("free", tuple(range(5))), {"free": FOUR})
        self.check_row(free, (0, 1, 2, 3, 4), (0,) * 5, (1, 2, 3, 0, 1))
        self.assertLess(time.time() - started, 20)

    def check_row(self, board, lot, base, other):
        row = naming_row(board, lot, base, other)
        self.assertEqual(row[wire_names(board, lot, base)[7]], wire_names(board, lot, other)[7])

    def test_example(self):
        self.assertEqual(knot_group(sums_board(), [(0,), (1,), (2,)], (0, 0, 0)), Group(cycle_rows(4)))
        self.assertEqual(wire_names(sums_board(), (0, 2), (1, 2, 3))[:6], (2, 3, 0, 1, 3, 0))
        three = Group(permutation_rows([(1, 2, 0), (1, 0, 2)]))
        self.assertEqual(knot_boards(three, 2), 720 ** 3 // (6 * 36))


if __name__ == "__main__":
    unittest.main()
