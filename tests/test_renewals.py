"""[63], [64]: renewals, what bars them, and their group."""

import itertools
import unittest

from oncetested.boards import Board
from oncetested.errors import InvalidLot, InvalidRenewal, InvalidSetting, InvalidSize, Refused
from oncetested.groups import Group
from oncetested.readings import one_test
from oncetested.renewals import (barred_holds, barred_setting, broken_renewal, composed_rows, forced_rows, idle_renewal,
                                 is_renewal, led_renewal, led_setting, lot_renewals, renewal_group, renewal_lots,
                                 undone_rows)
from oncetested.squares import square_group
from support import (all_group_rows, any_values, as_lists, cycle_rows, fair_board, has_lists, latin, lots_of, odd_board,
                     permutation_rows, pick, seeded, settings_of, sums_board, told_error)

NOT_FAIR = Board(2, (2, 2), (0, 0, 1, 1))
THREE = permutation_rows([(1, 2, 0), (1, 0, 2)])


def led(lot, rows, setting):
    told = dict(zip(lot, rows))
    return tuple(told[part][content] if part in told else content for part, content in enumerate(setting))


def broken(board, lot, rows):
    """The settings whose mark rows change."""
    return [setting for setting in settings_of(board.sizes) if board(setting) != board(led(lot, rows, setting))]


def at_rest(board, lot, contents):
    """The setting with these contents and the rest at 0."""
    told = dict(zip(lot, contents))
    return tuple(told.get(part, 0) for part in range(len(board)))


def tried_renewals(board, lot):
    """All renewals by trying every row."""
    rows = list(itertools.permutations(range(board.many)))
    return tuple(row for row in itertools.product(rows, repeat=len(lot)) if not broken(board, lot, row))


def boards(number, count):
    rng = seeded(number)
    for _ in range(count):
        many = rng.randint(2, 4)
        yield rng, fair_board(rng, many, rng.randint(1, 3))


def line_board(rows, parts):
    """The board whose mark is the product of the contents."""
    size = len(rows)
    marks = []
    for setting in settings_of((size,) * parts):
        mark = setting[0]
        for content in setting[1:]:
            mark = rows[mark][content]
        marks.append(mark)
    return Board(size, (size,) * parts, marks)


class TestErrors(unittest.TestCase):
    CALLS = [(idle_renewal, 0), (led_setting, 2), (broken_renewal, 1), (is_renewal, 1), (lot_renewals, 0), (forced_rows, 2),
             (led_renewal, 2), (barred_setting, 2), (barred_holds, 3), (renewal_lots, 0), (renewal_group, 0)]

    def test_boards_that_are_not_fair_go_ahead(self):
        for call, further in self.CALLS:
            told_error(self, Refused, ("twice", 1, (0, 0), 1), call, NOT_FAIR, None, *[None] * further)
            told_error(self, Refused, ("size", 1), call, Board(2, (2, 1), (0, 1)), None, *[None] * further)

    def test_then_lots(self):
        for call, further in self.CALLS:
            for lot, at in ((None, -1), ((), -1), ((3,), 0), ((0, 0), 1), ([2, 1], 1), ((True,), 0), ("0", -1)):
                told_error(self, InvalidLot, at, call, odd_board(), lot, *[None] * further)

    def test_rows(self):
        idle = (0, 1, 2, 3)
        for call, further in ((led_setting, (None,)), (broken_renewal, ())):
            for value in (None, (), (idle,), [idle] * 3, 0, "ab", {}):
                told_error(self, InvalidRenewal, -1, call, odd_board(), (0, 1), value, *further)
            for row in (None, (), (0, 1, 2), (0, 1, 2, 2), (0, 1, 2, 4), (0, True, 2, 3), "0123", idle + (4,), 0, (0, 1, 2, -1)):
                told_error(self, InvalidRenewal, 0, call, odd_board(), (0, 1), (row, row), *further)
                told_error(self, InvalidRenewal, 1, call, odd_board(), (0, 1), [idle, row], *further)
        for value, at in ((None, -1), ((0, 0), -1), ((0, 0, 4), 2), ([0, True, 9], 1), ("000", -1), ((0, 0, 0, 0), -1)):
            told_error(self, InvalidSetting, at, led_setting, odd_board(), (0, 1), (idle, idle), value)
        for value in any_values():
            with self.assertRaises(InvalidRenewal):
                broken_renewal(odd_board(), (0, 1), value)
            told_error(self, InvalidSetting, "u", forced_rows, sums_board(), (0, 1, 2), value, value) if value != (0, 1, 2) else None

    def test_changes(self):
        board = odd_board()
        for call, further in ((forced_rows, ()), (led_renewal, ()), (barred_setting, ()), (barred_holds, (None,))):
            for value in (None, (), (0,), (0, 4), [0, True], "00", (0, 0, 0), 0, (0, -1)):
                told_error(self, InvalidSetting, "u", call, board, (0, 1), value, value, *further)
                told_error(self, InvalidSetting, "v", call, board, (0, 1), [0, 0], value, *further)


class TestRows(unittest.TestCase):
    def test_led_composed_and_undone(self):
        rng = seeded(1)
        for _ in range(40):
            many = rng.randint(2, 5)
            parts = rng.randint(1, 3)
            board = fair_board(rng, many, parts)
            lot = rng.choice(lots_of(parts))
            one = tuple(tuple(rng.sample(range(many), many)) for _ in lot)
            other = tuple(tuple(rng.sample(range(many), many)) for _ in lot)
            both, back = composed_rows(one, other), undone_rows(one)
            self.assertEqual(composed_rows(one=as_lists(one), other=as_lists(other)), both)
            self.assertEqual(undone_rows(rows=as_lists(one)), back)
            for setting in settings_of(board.sizes)[:20]:
                self.assertEqual(led_setting(board, lot, one, setting), led(lot, one, setting))
                self.assertEqual(led_setting(board=board, lot=list(lot), rows=as_lists(one), setting=list(setting)), led(lot, one, setting))
                self.assertEqual(led(lot, both, setting), led(lot, other, led(lot, one, setting)))
                self.assertEqual(led(lot, back, led(lot, one, setting)), setting)
            self.assertEqual(idle_renewal(board=board, lot=list(lot)), (tuple(range(many)),) * len(lot))
            self.assertEqual(composed_rows(one, back), idle_renewal(board, lot))
            told = broken(board, lot, one)
            self.assertEqual(broken_renewal(board, lot, one), told[0] if told else None)
            self.assertEqual(broken_renewal(board=board, lot=list(lot), rows=as_lists(one)), told[0] if told else None)
            self.assertIs(is_renewal(board, lot, one), not told)

    def test_what_is_a_renewal(self):
        board = odd_board()
        right = ((1, 0, 3, 2), (1, 0, 3, 2))
        self.assertIs(is_renewal(board, (0, 1), right), True)
        self.assertIs(is_renewal(board=board, lot=[0, 1], value=right), True)
        self.assertIsNone(broken_renewal(board, (0, 1), as_lists(right)))
        for value in (as_lists(right), list(right), (list(right[0]), right[1]), right[:1], right + right[:1], ((1, 0, 3, 2), (0, 1, 2, 3)),
                      ((True, 0, 3, 2), right[1]), (right[0], (1, 0, 3, 3)), (right[0], (1, False, 3, 2)), (right[0], None)):
            self.assertIs(is_renewal(board, (0, 1), value), False)
        for value in any_values():
            self.assertIs(is_renewal(board, (0, 1), value), False)
        self.assertIs(is_renewal(Board(2, (2,), (0, 1)), (0,), ((0, 1),)), True)


class TestRenewals(unittest.TestCase):
    def test_example(self):
        odd = odd_board()
        self.assertEqual(lot_renewals(odd, (0, 1)), (((0, 1, 2, 3), (0, 1, 2, 3)), ((1, 0, 3, 2), (1, 0, 3, 2))))
        self.assertEqual(barred_setting(odd, (0, 1), (0, 0), (2, 2)), (0, 0, 0))

    def test_every_row_that_can_be_tried(self):
        for rng, board in boards(2, 30):
            for lot in lots_of(len(board)):
                if (board.many, len(lot)) in ((4, 3),):
                    continue
                told = tried_renewals(board, lot)
                self.assertEqual(lot_renewals(board, lot), told)
                self.assertEqual(lot_renewals(board=board, lot=list(lot)), told)
                self.assertEqual(told[0], idle_renewal(board, lot))
                self.check_lots(board, lot, told)
                self.check_group(board, lot, told)
                self.check_changes(rng, board, lot, told)
                self.check_what_holds(board, lot, told)

    def check_lots(self, board, lot, renewals):
        contents = settings_of(pick(board.sizes, lot))
        orbits = {tuple(sorted({tuple(row[content] for row, content in zip(rows, there)) for rows in renewals})) for there in contents}
        self.assertEqual(renewal_lots(board, lot), tuple(sorted(orbits)))
        self.assertEqual(renewal_lots(board=board, lot=list(lot)), tuple(sorted(orbits)))

    def check_group(self, board, lot, renewals):
        if len(renewals) > 12:
            told_error(self, InvalidSize, "group", renewal_group, board, lot)
            return
        group = renewal_group(board=board, lot=list(lot))
        self.assertEqual(group.size, len(renewals))
        for a, b in itertools.product(range(len(renewals)), repeat=2):
            self.assertEqual(renewals[group.rows[a][b]], composed_rows(renewals[a], renewals[b]))

    def check_changes(self, rng, board, lot, renewals):
        contents = settings_of(pick(board.sizes, lot))
        for _ in range(12):
            u, v = rng.choice(contents), rng.choice(contents)
            forced = forced_rows(board, lot, u, v)
            self.assertEqual(forced_rows(board=board, lot=list(lot), u=list(u), v=list(v)), forced)
            self.assertFalse(has_lists(forced))
            for at, row in enumerate(forced):
                for content in range(board.many):
                    there = u[:at] + (content,) + u[at + 1:]
                    led_there = v[:at] + (row[content],) + v[at + 1:]
                    self.assertEqual(board(at_rest(board, lot, there)), board(at_rest(board, lot, led_there)))
            self.check_led(board, lot, renewals, u, v, forced)

    def check_led(self, board, lot, renewals, u, v, forced):
        leading = [rows for rows in renewals if tuple(row[content] for row, content in zip(rows, u)) == v]
        found = led_renewal(board, lot, u, v)
        self.assertEqual([found] if found else [], leading)
        self.assertEqual(led_renewal(board=board, lot=list(lot), u=list(u), v=list(v)), found)
        bars = []
        if board(at_rest(board, lot, u)) != board(at_rest(board, lot, v)):
            bars = [at_rest(board, lot, u)]
        elif not leading:
            bars = broken(board, lot, forced)
        self.assertEqual(barred_setting(board, lot, u, v), bars[0] if bars else None)
        self.assertEqual(barred_setting(board=board, lot=list(lot), u=list(u), v=list(v)), bars[0] if bars else None)
        self.assertEqual(bool(bars), not leading)
        for setting in settings_of(board.sizes)[:30]:
            self.assertIs(barred_holds(board, lot, u, v, setting), setting in bars)
            self.assertIs(barred_holds(board=board, lot=list(lot), u=list(u), v=list(v), value=list(setting)), False)
        for setting in bars[:2]:
            self.assertIs(barred_holds(board, lot, u, v, setting), True)
            self.assertIs(barred_holds(board, lot, u, v, setting[:-1]), False)
            if setting[0] < 2:
                self.assertIs(barred_holds(board, lot, u, v, (bool(setting[0]),) + setting[1:]), False)

    def check_what_holds(self, board, lot, renewals):
        for rows in renewals[1:]:
            self.assertFalse(any(led(lot, rows, setting) == setting for setting in settings_of(board.sizes)))
        whole = board.many ** (len(lot) - 1)
        self.assertEqual(whole % len(renewals), 0)
        if len(renewals) == whole:
            self.assertIs(one_test(board, lot), True)
        if len(lot) == 2:
            told = False
            if one_test(board, lot):
                contents = [board(at_rest(board, lot, there)) for there in settings_of((board.many,) * 2)]
                names = [[board(at_rest(board, lot, (c, 0) if at == 0 else (0, c))) for c in range(board.many)] for at in range(2)]
                square = [[None] * board.many for _ in range(board.many)]
                for (a, b), mark in zip(settings_of((board.many,) * 2), contents):
                    square[names[0][a]][names[1][b]] = mark
                told = square_group(square) is not None
            self.assertEqual(len(renewals) == board.many, told)

    def test_any_values_that_bar(self):
        board = odd_board()
        for value in any_values():
            self.assertIs(barred_holds(board, (0, 1), (0, 0), (2, 2), value), value == (0, 1, 2) and (0, 1, 2) in
                          broken(board, (0, 1), forced_rows(board, (0, 1), (0, 0), (2, 2))))
            self.assertIs(barred_holds(board, (0, 1), (0, 0), (1, 1), value), False)

    def test_lines_and_free_knots(self):
        for rows in all_group_rows():
            if len(rows) in (4, 6, 8):
                board = line_board(rows, 2)
                self.assertEqual(len(lot_renewals(board, (0, 1))), len(rows))
                group = renewal_group(board, (0, 1))
                self.assertEqual(sorted(Group(rows).rows[x][x] == Group(rows).unit for x in range(len(rows))),
                                 sorted(group.rows[x][x] == group.unit for x in range(len(rows))))
        line = line_board(THREE, 3)
        self.assertEqual([len(lot_renewals(line, lot)) for lot in ((0, 1), (1, 2), (0, 2), (0, 1, 2))], [6, 6, 1, 36])
        told_error(self, InvalidSize, "group", renewal_group, line, (0, 1, 2))
        free = line_board(cycle_rows(4), 3)
        self.assertEqual([len(lot_renewals(free, lot)) for lot in lots_of(3)], [1, 1, 1, 4, 4, 4, 16])

    def test_a_group_of_12(self):
        # Rows 3 apart are the same but for an exchange of columns, so renewals move the first two parts by 3 in all.
        square = ((4, 2, 5, 3, 0, 1), (1, 3, 0, 2, 4, 5), (5, 0, 4, 1, 3, 2), (2, 4, 3, 5, 1, 0), (3, 1, 2, 0, 5, 4), (0, 5, 1, 4, 2, 3))
        board = Board(6, (6, 6, 6), [square[(x + y) % 6][z] for x, y, z in settings_of((6, 6, 6))])
        renewals = lot_renewals(board, (0, 1, 2))
        self.assertEqual(len(renewals), 12)
        self.check_group(board, (0, 1, 2), renewals)
        self.check_lots(board, (0, 1, 2), renewals)

    def test_limits(self):
        eight = line_board(cycle_rows(8), 3)
        self.assertEqual(len(lot_renewals(eight, (0, 1, 2))), 64)
        self.assertEqual([len(lot) for lot in renewal_lots(eight, (0, 1, 2))], [64] * 8)
        four = line_board(cycle_rows(4), 4)
        self.assertEqual(len(lot_renewals(four, (0, 1, 2, 3))), 64)
        two = line_board(cycle_rows(2), 8)
        self.assertEqual(len(lot_renewals(two, (0, 1, 2, 3, 4, 5, 6))), 64)
        self.assertEqual(renewal_group(two, (0, 2, 4)).size, 4)
        rng = seeded(3)
        rows = latin(rng, 5)
        board = Board(5, (5, 5), sum(rows, ()))
        self.assertEqual(len(lot_renewals(board, (0, 1))), len(tried_renewals(board, (0, 1))))


if __name__ == "__main__":
    unittest.main()
