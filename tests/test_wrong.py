"""[75] to [79]: wrong parts, against all settings of small boards."""

import itertools
import time
import unittest

from oncetested.boards import Board
from oncetested.errors import InvalidLot, InvalidSize, Refused
from oncetested.looks import no_holds
from oncetested.wrong import (changed_many, count_fitting, explained_by, fitting_number, full_no, knowing_kinds, nth_fitting,
                              nth_unnoticed, unnoticed_many, unnoticed_number)
from shaping import kinds_of_boards, looked_lots, tree_board
from support import (any_values, cycle_rows, fair_board, has_lists, lots_of, odd_board, pick, rest, seeded,
                     settings_of, sums_board, told_error)

NOT_FAIR = Board(2, (2, 2), (0, 0, 1, 1))


def boards(number, count=25):
    rng = seeded(number)
    for board, _ in kinds_of_boards(rng):
        if len(board.marks) <= 256:
            yield rng, board
    for _ in range(count):
        many = rng.randint(2, 4)
        yield rng, fair_board(rng, many, rng.randint(1, 4 if many < 4 else 3))


def differing(one, other):
    return tuple(at for at, content in enumerate(one) if content != other[at])


def random_setting(rng, board):
    return tuple(rng.randrange(board.many) for _ in range(len(board)))


class TestCounts(unittest.TestCase):
    def test_explained(self):
        for rng, board in boards(1):
            for _ in range(6):
                setting, mark = random_setting(rng, board), rng.randrange(board.many)
                told = explained_by(board, setting, mark)
                self.assertEqual(explained_by(board=board, setting=list(setting), mark=mark), told)
                self.assertIsInstance(told, tuple)
                self.assertEqual(len(told), len(board))
                for part, content in enumerate(told):
                    self.assertEqual(board(setting[:part] + (content,) + setting[part + 1:]), mark)
        self.assertEqual(explained_by(sums_board(), (0, 1, 2), 1), (2, 3, 0))

    def test_changed_many(self):
        for _, board in boards(2):
            for lot in lots_of(len(board)):
                for setting in settings_of(board.sizes)[::max(1, len(board.marks) // 4)]:
                    counts = {}
                    for other in settings_of(board.sizes):
                        if differing(setting, other) == lot:
                            counts[board(other)] = counts.get(board(other), 0) + 1
                    same, further = changed_many(board.many, len(lot))
                    for mark in range(board.many):
                        self.assertEqual(counts.get(mark, 0), same if mark == board(setting) else further)
                    self.assertEqual(unnoticed_many(board.many, len(lot)), same)
        self.assertEqual((changed_many(4, 0), changed_many(4, 1), changed_many(4, 2)), ((1, 0), (0, 1), (3, 2)))
        self.assertEqual((unnoticed_many(4, 3), unnoticed_many(many=2, parts=5), changed_many(many=2, parts=6)), (6, 0, (1, 0)))

    def test_40_parts(self):
        for many in range(2, 9):
            for parts in (0, 1, 7, 39, 40):
                same, other = changed_many(many, parts)
                self.assertEqual(same + other * (many - 1), (many - 1) ** parts)
                self.assertEqual(same - other, (-1) ** parts)
                self.assertEqual(unnoticed_many(many, parts), same)


class TestNumbers(unittest.TestCase):
    def test_there_and_back(self):
        counts = set()
        for rng, board in boards(3):
            for lot in lots_of(len(board)):
                setting = random_setting(rng, board)
                told = [other for other in settings_of(board.sizes) if differing(setting, other) == lot and board(other) == board(setting)]
                self.assertEqual([nth_unnoticed(board, setting, lot, number) for number in range(len(told))], told)
                self.assertEqual(len(told), unnoticed_many(board.many, len(lot)))
                for number, other in enumerate(told[:10]):
                    self.assertEqual(unnoticed_number(board, setting, other), number)
                    self.assertEqual(unnoticed_number(board=board, setting=list(setting), wrong=list(other)), number)
                    self.assertEqual(nth_unnoticed(board=board, setting=list(setting), lot=list(lot), number=number), other)
                for value in (len(told), -1, True, None, "0", 10 ** 30):
                    told_error(self, InvalidSize, "number", nth_unnoticed, board, setting, lot, value)
                counts.add(len(told))
        self.assertTrue({0, 1, 2, 3, 6} <= counts)

    def test_settings_that_are_noticed(self):
        for rng, board in boards(4):
            setting = random_setting(rng, board)
            self.assertIsNone(unnoticed_number(board, setting, setting))
            for other in settings_of(board.sizes):
                self.assertIs(unnoticed_number(board, setting, other) is None, board(other) != board(setting) or other == setting)

    def test_values(self):
        for value in any_values():
            if not (type(value) is int and 0 <= value < 3):
                told_error(self, InvalidSize, "number", nth_unnoticed, sums_board(), (0, 0, 0), (0, 1), value)
            if not isinstance(value, (list, tuple)) or len(value) == 0:
                told_error(self, InvalidLot, -1, nth_unnoticed, sums_board(), (0, 0, 0), value, None)
                told_error(self, InvalidLot, -1, full_no, sums_board(), value)
                told_error(self, InvalidLot, -1, knowing_kinds, sums_board(), value, 0)
        for lot, at in (((3,), 0), ((0, 0), 1), ([2, 1], 1), ((True,), 0), ((0, 1, 2, 3), 3), ((0, None), 1)):
            told_error(self, InvalidLot, at, nth_unnoticed, sums_board(), (0, 0, 0), lot, None)
            told_error(self, InvalidLot, at, full_no, sums_board(), lot)
            told_error(self, InvalidLot, at, knowing_kinds, sums_board(), lot, 0)
        self.assertEqual(nth_unnoticed(sums_board(), (0, 0, 0), (0, 1, 2), 0), (1, 1, 2))

    def test_boards_that_are_not_fair_go_ahead(self):
        calls = ((explained_by, ((0, 0), 0)), (nth_unnoticed, ((0, 0), None, None)), (unnoticed_number, ((0, 0), (0, 1))), (full_no, (None,)),
                 (count_fitting, ((), 0)), (nth_fitting, ((), 0, None)), (fitting_number, ((), (0, 0))), (knowing_kinds, (None, 0)))
        for call, further in calls:
            told_error(self, Refused, ("twice", 1, (0, 0), 1), call, NOT_FAIR, *further)
            told_error(self, Refused, ("size", 1), call, Board(2, (2, 3), (0,) * 6), *further)


class TestFullNoes(unittest.TestCase):
    def test_exactly_for_lots_that_are_not_one_test(self):
        seen = set()
        for _, board in boards(5):
            one_test = looked_lots(board)
            for lot in lots_of(len(board)):
                no = full_no(board, lot)
                self.assertEqual(full_no(board=board, lot=list(lot)), no)
                self.assertIs(no is None, lot in one_test)
                if no is not None:
                    self.assertFalse(has_lists(no))
                    self.assertIs(no_holds(board, lot, no), True)
                    self.assertEqual(len(differing(no[0], no[1])), len(lot))
                seen.add((len(lot), no is None))
        self.assertTrue({(1, True), (2, True), (2, False), (3, True), (3, False), (4, True)} <= seen)

    def test_wrong_contents_that_go_unnoticed(self):
        for _, board in boards(6, 10):
            one_test = looked_lots(board)
            for lot in lots_of(len(board)):
                contents = settings_of(pick(board.sizes, lot))
                unnoticed = set()
                for outside in settings_of(pick(board.sizes, rest(len(board), lot))):
                    told = dict(zip(rest(len(board), lot), outside))
                    marks = {}
                    for inside in contents:
                        held = told | dict(zip(lot, inside))
                        marks[inside] = board(tuple(held[part] for part in range(len(board))))
                    unnoticed.add(tuple(pair for pair in itertools.combinations(contents, 2)
                                        if marks[pair[0]] == marks[pair[1]] and len(differing(*pair)) == len(lot)))
                self.assertIs(len(unnoticed) == 1, lot in one_test)

    def test_limits(self):
        started = time.time()
        rng = seeded(7)
        for many, parts in ((8, 3), (2, 8), (4, 4), (7, 3), (3, 5)):
            for board in (fair_board(rng, many, parts), tree_board(many, ("free", tuple(range(parts))), {"free": cycle_rows(many)})):
                for lot in rng.sample(lots_of(parts), 7) + [tuple(range(parts))]:
                    no = full_no(board, lot)
                    self.assertTrue(no is None or no_holds(board, lot, no))
                    count = unnoticed_many(many, len(lot))
                    if count:
                        setting = random_setting(rng, board)
                        other = nth_unnoticed(board, setting, lot, count - 1)
                        self.assertEqual(unnoticed_number(board, setting, other), count - 1)
        self.assertLess(time.time() - started, 30)


class TestKnownContents(unittest.TestCase):
    def test_fitting_settings(self):
        seen = set()
        for rng, board in boards(8):
            for _ in range(8):
                known = rng.sample(range(len(board)), rng.randint(0, len(board)))
                pairs = [(part, rng.randrange(board.many)) for part in known]
                mark = rng.randrange(board.many)
                told = [setting for setting in settings_of(board.sizes) if board(setting) == mark and all(setting[part] == c for part, c in pairs)]
                self.assertEqual(count_fitting(board, pairs, mark), len(told))
                self.assertEqual(count_fitting(board=board, pairs=tuple(pairs), mark=mark), len(told))
                if len(pairs) < len(board):
                    self.assertEqual(len(told), board.many ** (len(board) - len(pairs) - 1))
                self.assertEqual([nth_fitting(board, pairs, mark, number) for number in range(len(told))], told)
                for number, setting in enumerate(told[:9]):
                    self.assertEqual(nth_fitting(board=board, pairs=tuple(pairs), mark=mark, number=number), setting)
                    self.assertEqual(fitting_number(board, pairs, setting), number)
                    self.assertEqual(fitting_number(board=board, pairs=tuple(pairs), setting=list(setting)), number)
                for value in (len(told), -1, True, None, "0", [0]):
                    told_error(self, InvalidSize, "number", nth_fitting, board, pairs, mark, value)
                for setting in rng.sample(settings_of(board.sizes), 2):
                    known_there = all(setting[part] == content for part, content in pairs)
                    self.assertIs(fitting_number(board, pairs, setting) is None, not known_there)
                seen.add((len(pairs) == len(board), len(told)))
        self.assertTrue({(True, 0), (True, 1), (False, 1), (False, 4), (False, 16)} <= seen)

    def test_by_hand(self):
        self.assertEqual(count_fitting(sums_board(), (), 3), 16)
        self.assertEqual(nth_fitting(sums_board(), ((2, 1),), 0, 1), (1, 2, 1))
        self.assertEqual(fitting_number(sums_board(), ((2, 1), (0, 1)), (1, 3, 1)), 0)
        self.assertIsNone(fitting_number(sums_board(), ((2, 1), (0, 1)), [1, 3, 2]))
        for value in any_values():
            if not (type(value) is int and 0 <= value < 4):
                told_error(self, InvalidSize, "number", nth_fitting, sums_board(), [(2, 1)], 0, value)


class TestKnowing(unittest.TestCase):
    def test_kinds_of_what_is_left(self):
        seen = set()
        for _, board in boards(9):
            one_test = looked_lots(board)
            for lot in lots_of(len(board)):
                if len(lot) == len(board):
                    continue
                rows = set()
                for mark in range(board.many):
                    left = {}
                    for setting in settings_of(board.sizes):
                        inside = left.setdefault(pick(setting, lot), [])
                        if board(setting) == mark:
                            inside.append(pick(setting, rest(len(board), lot)))
                    kinds = []
                    for contents in sorted(left):
                        if left[contents] not in kinds:
                            kinds.append(left[contents])
                    told = tuple(kinds.index(left[contents]) for contents in sorted(left))
                    self.assertEqual(knowing_kinds(board, lot, mark), told)
                    self.assertEqual(knowing_kinds(board=board, lot=list(lot), mark=mark), told)
                    self.assertGreaterEqual(len(kinds), board.many)
                    rows.add(told)
                just = len(rows) == 1 and max(min(rows)) == board.many - 1
                self.assertIs(just, lot in one_test)
                seen.add((len(lot), just))
        self.assertTrue({(1, True), (2, True), (2, False), (3, True), (3, False)} <= seen)

    def test_by_hand(self):
        self.assertEqual(knowing_kinds(sums_board(), (0, 1), 2), (0, 1, 2, 3, 1, 2, 3, 0, 2, 3, 0, 1, 3, 0, 1, 2))
        self.assertEqual(len(set(knowing_kinds(odd_board(), (0, 1), 0))), 4)
        self.assertNotEqual(knowing_kinds(odd_board(), (0, 1), 0), knowing_kinds(odd_board(), (0, 1), 2))
        self.assertEqual(knowing_kinds(Board(2, (2, 2), (0, 1, 1, 0)), [1], 1), (0, 1))


if __name__ == "__main__":
    unittest.main()
