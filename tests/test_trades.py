"""[10], [11]: exchanged marks, lost marks and sums."""

import itertools
import unittest

from oncetested.boards import Board
from oncetested.errors import InvalidSize, Refused
from oncetested.fair import fair_fault, is_fair
from oncetested.trades import exchange_lots, exchanged_board, filled_marks, sum_board, sum_paper
from support import cycle_rows, fair_board, has_lists, latin, odd_board, random_board, seeded, settings_of, sums_board, told_error


def searched_lots(board, one, other):
    """The lots of two marks, joined until nothing hangs together any more."""
    lots = [{setting} for setting in settings_of(board.sizes) if board(setting) in (one, other)]
    joined = True
    while joined:
        joined = False
        for first, second in itertools.combinations(lots, 2):
            if any(sum(a != b for a, b in zip(x, y)) == 1 for x in first for y in second):
                lots = [lot for lot in lots if lot not in (first, second)] + [first | second]
                joined = True
                break
    return tuple(sorted(tuple(sorted(lot)) for lot in lots))


class TestExchange(unittest.TestCase):
    def fair_boards(self, number, count):
        rng = seeded(number)
        for _ in range(count):
            many = rng.randint(2, 4)
            yield rng, fair_board(rng, many, rng.randint(1, 3 if many < 4 else 2))

    def test_lots(self):
        for rng, board in self.fair_boards(1, 30):
            one, other = rng.sample(range(board.many), 2)
            lots = exchange_lots(board, one, other)
            self.assertEqual(lots, searched_lots(board, one, other))
            self.assertEqual(exchange_lots(board=board, one=other, other=one), lots)
            self.assertFalse(has_lists(lots))
            for lot in lots:
                marks = [board(setting) for setting in lot]
                self.assertEqual(marks.count(one), marks.count(other))
                self.assertEqual(len(marks), marks.count(one) + marks.count(other))
                self.assertGreaterEqual(len(lot), 2 ** len(board))

    def test_greater_boards(self):
        rng = seeded(2)
        for many in (5, 6):
            board = fair_board(rng, many, 2)
            self.assertEqual(exchange_lots(board, 0, many - 1), searched_lots(board, 0, many - 1))
        self.assertEqual(exchange_lots(odd_board(), 1, 3), searched_lots(odd_board(), 1, 3))

    def test_not_fair(self):
        told_error(self, Refused, ("twice", 1, (0, 0), 1), exchange_lots, Board(2, (2, 2), (0, 0, 1, 1)), 0, 1)
        told_error(self, Refused, ("size", 0), exchange_lots, Board(2, (1, 2), (0, 1)), 0, 1)

    def test_whole_lots_keep_a_board_fair_and_others_do_not(self):
        for rng, board in self.fair_boards(3, 25):
            one, other = rng.sample(range(board.many), 2)
            lots = exchange_lots(board, one, other)
            chosen = [setting for lot in lots if rng.random() < 0.5 for setting in lot]
            rng.shuffle(chosen)
            changed = exchanged_board(board, one, other, chosen)
            self.assertIs(is_fair(changed), True)
            for setting in settings_of(board.sizes):
                mark = board(setting)
                told = other if mark == one else one
                self.assertEqual(changed(setting), told if setting in chosen else mark)
            self.assertEqual(exchanged_board(board=board, one=other, other=one, settings=tuple(chosen)), changed)
            settings = [setting for lot in lots for setting in lot]
            for _ in range(10):
                some = [setting for setting in settings if rng.random() < 0.5]
                whole = all(set(lot) <= set(some) or not set(lot) & set(some) for lot in lots)
                self.assertIs(is_fair(exchanged_board(board, one, other, some)), whole)

    def test_refused_settings(self):
        board = Board(3, (2, 3), (0, 1, 2, 2, 0, 1))
        self.assertEqual(exchanged_board(board, 0, 1, [(0, 0), (1, 1)]).marks, (1, 1, 2, 2, 1, 1))
        self.assertEqual(exchanged_board(board, 0, 1, ()), board)
        told_error(self, Refused, 1, exchanged_board, board, 0, 1, [(0, 0), (0, 2), (1, 0)])
        told_error(self, Refused, 0, exchanged_board, board, 0, 1, [(0, 2), (0, 2)])
        told_error(self, Refused, 2, exchanged_board, board, 0, 1, ((0, 0), (0, 1), (0, 0), (0, 2)))

    def test_two_unlike_fair_boards_differ_in_many_settings(self):
        rng = seeded(4)
        for _ in range(60):
            many, parts = rng.randint(2, 4), rng.randint(1, 3)
            one, other = fair_board(rng, many, parts), fair_board(rng, many, parts)
            unlike = sum(a != b for a, b in zip(one.marks, other.marks))
            self.assertTrue(unlike == 0 or unlike >= 2 ** parts)


def filled_in_order(rng, many, parts, marks):
    """The marks filled in line by line, in some order, as often as something changes."""
    settings = settings_of((many,) * parts)
    told = dict(zip(settings, marks))
    lines = [[setting[:part] + (content,) + setting[part + 1:] for content in range(many)]
             for part in range(parts) for setting in settings if setting[part] == 0]
    changed = True
    while changed:
        changed = False
        rng.shuffle(lines)
        for line in lines:
            there = [told[setting] for setting in line if told[setting] is not None]
            if len(set(there)) < len(there):
                return None
            if len(there) == many - 1:
                gap = [setting for setting in line if told[setting] is None][0]
                told[gap] = (set(range(many)) - set(there)).pop()
                changed = True
    return tuple(told[setting] for setting in settings)


class TestFilled(unittest.TestCase):
    def test_example(self):
        self.assertEqual(fair_fault(Board.read("marks 3\nparts 3 3\n012\n120\n202")), ("twice", 0, (0, 2), 2))
        self.assertEqual(filled_marks(3, 2, (0, None, None, 1, 2, None, None, None, None)), (0, None, None, 1, 2, 0, 2, None, None))

    def test_any_order_of_lines(self):
        rng = seeded(5)
        seen = {}
        for _ in range(300):
            many, parts = rng.choice(((2, 1), (2, 2), (2, 3), (3, 1), (3, 2), (3, 3), (4, 2)))
            marks = list(fair_board(rng, many, parts).marks)
            share = rng.random()
            marks = [None if rng.random() < share else mark for mark in marks]
            if rng.random() < 0.5:
                marks[rng.randrange(len(marks))] = rng.randrange(many)
            told = filled_in_order(rng, many, parts, marks)
            self.assertEqual(filled_marks(many, parts, marks), told)
            self.assertEqual(filled_marks(many=many, parts=parts, marks=tuple(marks)), told)
            seen[told is None] = True
        self.assertEqual(len(seen), 2)

    def test_a_clash(self):
        self.assertIsNone(filled_marks(2, 1, (0, 0)))
        self.assertIsNone(filled_marks(3, 2, (0, 0) + (None,) * 7))
        self.assertIsNone(filled_marks(2, 2, [0, None, None, 1]))
        self.assertIsNone(filled_marks(3, 2, (None, 1, 2, 0, None, None, None, None, None)))
        self.assertEqual(filled_marks(2, 2, [0, None, None, 0]), (0, 1, 1, 0))
        self.assertEqual(filled_marks(2, 2, [None] * 4), (None,) * 4)
        self.assertEqual(filled_marks(2, 1, [None, 1]), (0, 1))

    def test_few_lost_marks_come_back(self):
        rng = seeded(6)
        for _ in range(60):
            many = rng.randint(2, 4)
            parts = rng.randint(1, 3 if many < 4 else 2)
            board = fair_board(rng, many, parts)
            marks = list(board.marks)
            for number in rng.sample(range(len(marks)), min(len(marks), 2 ** parts) - 1):
                marks[number] = None
            self.assertEqual(filled_marks(many, parts, marks), board.marks)

    def test_a_whole_lot_never_comes_back(self):
        rng = seeded(7)
        for _ in range(30):
            board = fair_board(rng, rng.randint(2, 4), 2)
            one, other = rng.sample(range(board.many), 2)
            lot = rng.choice(exchange_lots(board, one, other))
            marks = [None if setting in lot else board(setting) for setting in settings_of(board.sizes)]
            self.assertEqual(filled_marks(board.many, 2, marks), tuple(marks))

    def test_too_many_settings(self):
        told_error(self, InvalidSize, "settings", filled_marks, 4, 8, ())
        told_error(self, InvalidSize, "settings", filled_marks, 8, 5, [None] * 4)
        marks = [sum(setting) % 3 for setting in settings_of((3,) * 8)]
        self.assertEqual(filled_marks(3, 8, [None] * 100 + marks[100:]), tuple(marks))
        self.assertEqual(filled_marks(7, 5, [None] * 16807), (None,) * 16807)


class TestSums(unittest.TestCase):
    def test_sums(self):
        rng = seeded(8)
        for _ in range(60):
            many = rng.randint(2, 8)
            rows = [[rng.randint(-999999, 999999) for _ in range(rng.randint(1, 3))] for _ in range(rng.randint(1, 4))]
            base = rng.randint(-999999, 999999)
            board = sum_board(many, base, rows)
            self.assertEqual((board.many, board.sizes), (many, tuple(len(row) for row in rows)))
            for setting in settings_of(board.sizes):
                whole = base + sum(row[content] for row, content in zip(rows, setting))
                self.assertEqual(board(setting), whole % many)
            self.assertEqual(sum_board(many=many, base=base, rows=tuple(tuple(row) for row in rows)), board)
            paper = sum_paper(board)
            told = tuple(tuple((number - row[0]) % many for number in row) for row in rows)
            self.assertEqual(paper, ((base + sum(row[0] for row in rows)) % many, told))
            self.assertEqual(sum_board(many, paper[0], paper[1]), board)
        told_error(self, InvalidSize, "settings", sum_board, 2, 0, [[0] * 142, [0] * 141])
        told_error(self, InvalidSize, "settings", sum_board, 2, 0, [[0] * 4] * 8)
        self.assertEqual(len(sum_board(2, 0, [[0] * 100, [1] * 200]).marks), 20000)
        self.assertEqual(len(sum_board(2, 1, [[0]] * 8)), 8)

    def test_papers(self):
        rng = seeded(9)
        seen = {}
        for _ in range(150):
            board = random_board(rng, 16)
            told = None
            base = board.marks[0]
            rows = [[(board((0,) * part + (content,) + (0,) * (len(board) - part - 1)) - base) % board.many for content in range(size)]
                    for part, size in enumerate(board.sizes)]
            if sum_board(board.many, base, rows) == board:
                told = (base, tuple(tuple(row) for row in rows))
            self.assertEqual(sum_paper(board=board), told)
            seen[told is None] = True
        self.assertEqual(len(seen), 2)
        self.assertIsNone(sum_paper(odd_board()))
        self.assertEqual(sum_paper(sums_board()), (0, (tuple(range(4)),) * 3))

    def test_fair_boards_of_2_or_3_marks_are_sums(self):
        rng = seeded(10)
        for _ in range(60):
            board = fair_board(rng, rng.randint(2, 3), rng.randint(1, 4))
            self.assertIsNotNone(sum_paper(board))
        square = latin(rng, 4)
        while sorted(square) == sorted(cycle_rows(4)):
            square = latin(rng, 4)
        self.assertTrue(is_fair(Board(4, (4, 4), sum(square, ()))))


if __name__ == "__main__":
    unittest.main()
