"""[44]: forms led, marked, turned, put together and near 0, and forms of any trees of tables."""

import time
import unittest

from oncetested.boards import Board
from oncetested.errors import InvalidLot, InvalidSize, Refused
from oncetested.forms import Form, board_form, form_lots, form_shape
from oncetested.moves import led_form, marked_form, near_form, put_form, tidy_form, turned_form
from oncetested.putting import held_parts, led_board, marked_board, put_board, turned_board
from shaping import BITS, EIGHT_BITS, FOUR, SIX, SQUARE, kinds_of_boards, odd_mark
from support import any_values, as_lists, fair_board, has_lists, latin, seeded, settings_of, told_error


def forms(number, count=60):
    """Boards of every kind with their forms."""
    rng = seeded(number)
    for board, _ in kinds_of_boards(rng):
        yield rng, board, board_form(board)
    for _ in range(count):
        many = rng.randint(2, 5)
        board = fair_board(rng, many, rng.randint(1, 5 if many < 4 else 3))
        yield rng, board, board_form(board)


def odd_table(many, count):
    return [odd_mark(setting) for setting in settings_of((many,) * count)]


def any_table(rng, many, count):
    """A table of so many wires: of squares and groups, or one that can't be split, under any names."""
    if count > 1 and many in (4, 8) and rng.random() < 0.5:
        table = odd_table(many, count)
    else:
        squares = [latin(rng, many) if many < 7 and rng.random() < 0.4 else cycle(many) for _ in range(count - 1)]
        table = []
        for setting in settings_of((many,) * count):
            mark = setting[0]
            for square, content in zip(squares, setting[1:]):
                mark = square[mark][content]
            table.append(mark)
    rows = [rng.sample(range(many), many) for _ in range(count)]
    marks = rng.sample(range(many), many)
    led = {}
    for setting, mark in zip(settings_of((many,) * count), table):
        led[tuple(row[content] for row, content in zip(rows, setting))] = marks[mark]
    return tuple(led[setting] for setting in settings_of((many,) * count))


def cycle(many):
    return tuple(tuple((x + y) % many for y in range(many)) for x in range(many))


def any_tree(rng, many, parts, most=4, single=0.15):
    """Names and rows of a tree of tables, its wires in any order."""
    names = [rng.sample(range(many), many) for _ in range(parts)]
    left, rows = list(range(parts)), []
    while len(left) > 1 or rng.random() < single:
        count = 1 if rng.random() < single else min(len(left), rng.randint(2, most))
        read = rng.sample(left, count)
        rows.append((tuple(read), any_table(rng, many, count)))
        left = [wire for wire in left if wire not in read] + [parts + len(rows) - 1]
    return names, rows


def run(many, names, rows, setting):
    """The mark that a tree of tables brings, by hand."""
    values = [row[content] for row, content in zip(names, setting)]
    for wires, table in rows:
        number = 0
        for wire in wires:
            number = number * many + values[wire]
        values.append(table[number])
    return values[-1]


def some_settings(rng, many, parts, count=40):
    yield (0,) * parts
    for _ in range(count):
        yield tuple(rng.randrange(many) if rng.random() < 0.5 else 0 for _ in range(parts))


class TestAgainstBoards(unittest.TestCase):
    def test_led(self):
        for rng, board, form in forms(1):
            for part in range(len(board)):
                row = rng.sample(range(board.many), board.many)
                told = board_form(led_board(board, part, row))
                self.assertEqual(led_form(form, part, row), told)
                self.assertEqual(led_form(form=form, part=part, row=tuple(row)), told)

    def test_marked(self):
        for rng, board, form in forms(2):
            for _ in range(3):
                row = rng.sample(range(board.many), board.many)
                told = board_form(marked_board(board, row))
                self.assertEqual(marked_form(form, row), told)
                self.assertEqual(marked_form(form=form, row=tuple(row)), told)

    def test_turned(self):
        for rng, board, form in forms(3):
            for _ in range(3):
                order = rng.sample(range(len(board)), len(board))
                told = board_form(turned_board(board, order))
                self.assertEqual(turned_form(form, order), told)
                self.assertEqual(turned_form(form=form, order=tuple(order)), told)

    def test_put(self):
        for rng, board, form in forms(4):
            if len(board) < 4:
                inner = fair_board(rng, board.many, rng.randint(1, 2))
                part = rng.randrange(len(board))
                told = board_form(put_board(board, part, inner))
                self.assertEqual(put_form(form, part, board_form(inner)), told)
                self.assertEqual(put_form(outer=form, part=part, inner=board_form(inner)), told)

    def test_kinds_put_into_kinds(self):
        found = [(board, board_form(board)) for board, _ in kinds_of_boards(seeded(5)) if board.many == 4]
        for board, form in found:
            for inner, inner_form in found:
                if len(board) + len(inner) < 7:
                    for part in (0, len(board) - 1):
                        self.assertEqual(put_form(form, part, inner_form), board_form(put_board(board, part, inner)))

    def test_near(self):
        for rng, board, form in forms(6):
            for _ in range(4):
                lot = tuple(sorted(rng.sample(range(len(board)), rng.randint(1, len(board)))))
                told = board_form(held_parts(board, [(part, 0) for part in range(len(board)) if part not in lot]))
                self.assertEqual(near_form(form, lot), told)
                self.assertEqual(near_form(form=form, lot=list(lot)), told)
            self.assertEqual(near_form(form, tuple(range(len(board)))), form)

    def test_arguments_do_not_change(self):
        _, _, form = list(forms(7, 0))[4]
        kept = form.text()
        row, order, lot = [3, 1, 0, 2], [1, 3, 0, 2], [0, 2]
        for result in (led_form(form, 1, row), marked_form(form, row), turned_form(form, order), near_form(form, lot),
                       put_form(form, 0, form)):
            self.assertIsInstance(result, Form)
            self.assertFalse(has_lists((result.names, result.knots)))
        self.assertEqual((form.text(), row, order, lot), (kept, [3, 1, 0, 2], [1, 3, 0, 2], [0, 2]))


class TestTidy(unittest.TestCase):
    def test_any_trees(self):
        rng = seeded(8)
        kinds = set()
        for _ in range(150):
            many = rng.choice((2, 2, 3, 4, 4, 4, 5))
            parts = rng.randint(1, {2: 7, 3: 6, 4: 5, 5: 3}[many])
            names, rows = any_tree(rng, many, parts)
            board = Board(many, (many,) * parts, [run(many, names, rows, setting) for setting in settings_of((many,) * parts)])
            form = tidy_form(many, names, rows)
            self.assertEqual(form, board_form(board))
            listed = [(list(wires), list(table)) for wires, table in rows]
            self.assertEqual(tidy_form(many=many, names=tuple(map(tuple, names)), rows=tuple(listed)), form)
            kinds |= {(kind, len(wires)) for kind, wires, _ in form.knots}
        self.assertTrue({("bare", 2), ("bare", 3), ("bare", 4), ("free", 3), ("free", 4)} <= kinds)

    def test_knots_of_groups_grow_together(self):
        rng = seeded(9)
        for square in (SIX, SQUARE, BITS, FOUR, EIGHT_BITS):
            many = len(square)
            flat = tuple(mark for row in square for mark in row)
            for _ in range(6):
                # The neighbours of a line are tied in any order, turned over or not.
                left, rows = [[0], [1], [2]], []
                wires = [0, 1, 2]
                while len(left) > 1:
                    at = rng.randrange(len(left) - 1)
                    straight = rng.random() < 0.5
                    table = flat if straight else tuple(square[y][x] for x in range(many) for y in range(many))
                    read = (wires[at], wires[at + 1]) if straight else (wires[at + 1], wires[at])
                    rows.append((read, table))
                    wires[at:at + 2] = [3 + len(rows) - 1]
                    left[at:at + 2] = [left[at] + left[at + 1]]
                names = [rng.sample(range(many), many) for _ in range(3)]
                form = tidy_form(many, names, rows)
                kind = "free" if square == tuple(zip(*square)) else "line"
                self.assertEqual(form_shape(form), (kind, (0, 1, 2)))
                for setting in some_settings(rng, many, 3):
                    self.assertEqual(form(setting), run(many, names, rows, setting))

    def test_no_rows_and_rows_of_one_wire(self):
        self.assertEqual(tidy_form(3, [[1, 2, 0]], []), Form(3, ((1, 2, 0),), ()))
        self.assertEqual(tidy_form(3, ((1, 2, 0),), (((0,), (2, 0, 1)),)), Form(3, ((0, 1, 2),), ()))
        rows = [((1,), (1, 0, 2)), ((2, 0), (0, 1, 2, 1, 2, 0, 2, 0, 1)), ((3,), (2, 1, 0)), ((4,), (1, 2, 0))]
        names = [[0, 1, 2], [2, 0, 1]]
        board = Board(3, (3, 3), [run(3, names, rows, setting) for setting in settings_of((3, 3))])
        self.assertEqual(tidy_form(3, names, rows), board_form(board))

    def test_eight_wires(self):
        rng = seeded(10)
        table = [sum(setting) % 2 for setting in settings_of((2,) * 8)]
        form = tidy_form(2, [rng.sample(range(2), 2) for _ in range(8)], [(rng.sample(range(8), 8), table)])
        self.assertEqual(form_shape(form), ("free", tuple(range(8))))


class TestGreatForms(unittest.TestCase):
    def test_by_marks_at_some_settings(self):
        rng = seeded(11)
        for many, parts, most in ((2, 200, 8), (4, 200, 4), (5, 120, 3), (8, 60, 3), (6, 200, 2)):
            names, rows = any_tree(rng, many, parts, most, 0.05)
            form = tidy_form(many, names, rows)
            settings = list(some_settings(rng, many, parts))
            for setting in settings:
                self.assertEqual(form(setting), run(many, names, rows, setting))
            part, row = rng.randrange(parts), rng.sample(range(many), many)
            led, marked = led_form(form, part, row), marked_form(form, row)
            order = rng.sample(range(parts), parts)
            turned = turned_form(form, order)
            lot = tuple(sorted(rng.sample(range(parts), parts // 2)))
            near = near_form(form, lot)
            for setting in settings:
                self.assertEqual(led(setting), form(setting[:part] + (row[setting[part]],) + setting[part + 1:]))
                self.assertEqual(marked(setting), row[form(setting)])
                self.assertEqual(turned(tuple(setting[place] for place in order)), form(setting))
                self.assertEqual(near(tuple(setting[place] for place in lot)),
                                 form(tuple(content if place in lot else 0 for place, content in enumerate(setting))))
            inner = near_form(form, lot[:parts // 3])
            outer = near_form(form, tuple(range(parts // 2)))
            put = put_form(outer, 3, inner)
            self.assertEqual(len(put), len(outer) + len(inner) - 1)
            for setting in some_settings(rng, many, len(put)):
                mark = inner(setting[3:3 + len(inner)])
                self.assertEqual(put(setting), outer(setting[:3] + (mark,) + setting[3 + len(inner):]))

    def test_a_line_and_a_free_knot_of_200(self):
        started = time.time()
        rng = seeded(12)
        for square in (SIX, SQUARE, BITS, FOUR, EIGHT_BITS):
            many = len(square)
            kind = "free" if square == tuple(zip(*square)) else "line"
            form = Form(many, [list(range(many))] * 200, [(kind, list(range(200)), square)])
            row, order = rng.sample(range(many), many), rng.sample(range(200), 200)
            for result in (led_form(form, 100, row), marked_form(form, row), turned_form(form, order)):
                self.assertEqual([len(wires) for _, wires, _ in result.knots], [200])
            self.assertEqual(len(near_form(form, tuple(range(0, 200, 2))).knots[0][1]), 100)
        self.assertLess(time.time() - started, 30)

    def test_rows_of_four_wires_that_cannot_be_split(self):
        started = time.time()
        for many, parts in ((4, 199), (8, 31)):
            rows, left = [], list(range(parts))
            while len(left) > 1:
                rows.append((tuple(left[:4]), odd_table(many, 4)))
                left = left[4:] + [parts + len(rows) - 1]
            form = tidy_form(many, [list(range(many))] * parts, rows)
            self.assertEqual([len(wires) for _, wires, _ in form.knots], [4] * len(rows))
            self.assertEqual(form_lots(form)[-1], tuple(range(parts)))
        self.assertLess(time.time() - started, 60)


class TestRefusals(unittest.TestCase):
    def test_put(self):
        three, four = Form(3, [[0, 1, 2]], ()), Form(4, [[0, 1, 2, 3]], ())
        told_error(self, Refused, 0, put_form, three, 0, four)
        great = Form(4, [list(range(4))] * 200, [("free", list(range(200)), BITS)])
        self.assertEqual(put_form(great, 7, four), great)
        pair = near_form(great, (0, 1))
        told_error(self, InvalidSize, "parts", put_form, great, 7, pair)
        told_error(self, InvalidSize, "parts", put_form, pair, 1, great)
        told_error(self, Refused, 7, put_form, great, 7, three)

    def test_lots_of_every_kind(self):
        form = Form(4, [list(range(4))] * 3, [("free", [0, 1, 2], BITS)])
        for value in any_values():
            if not isinstance(value, (list, tuple)) or len(value) == 0:
                told_error(self, InvalidLot, -1, near_form, form, value)
        for lot, at in (((3,), 0), ((0, 0), 1), ([2, 1], 1), ((True,), 0), ((0, 1, 2, 3), 3), ((0, None), 1), ((-1,), 0)):
            told_error(self, InvalidLot, at, near_form, form, lot)
            told_error(self, InvalidLot, at, near_form, form, as_lists(lot))


if __name__ == "__main__":
    unittest.main()
