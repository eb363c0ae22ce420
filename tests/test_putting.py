"""[8], [9]: boards made of other boards."""

import itertools
import unittest

from oncetested.boards import Board
from oncetested.errors import InvalidSize, Refused
from oncetested.fair import is_fair
from oncetested.putting import (held_board, held_parts, layered_board, led_board, marked_board, merged_board, merged_names,
                                put_board, put_boards, tied_board, turned_board, twin_lots)
from support import fair_board, has_lists, lots_of, pick, random_board, rest, seeded, settings_of, sums_board, told_error


def boards(number, count=40):
    rng = seeded(number)
    for at in range(count):
        yield rng, (fair_board(rng, rng.randint(2, 4), rng.randint(1, 3)) if at % 4 == 0 else random_board(rng))


class TestLed(unittest.TestCase):
    def check(self, board, sizes, mark):
        """The board has these sizes, and at every setting the mark that is told."""
        self.assertEqual(board.sizes, tuple(sizes))
        for setting in settings_of(sizes):
            self.assertEqual(board(setting), mark(setting))

    def test_led(self):
        for rng, board in boards(1):
            part = rng.randrange(len(board))
            row = [rng.randrange(board.sizes[part]) for _ in range(rng.randint(1, 8))]
            led = led_board(board, part, row)
            sizes = board.sizes[:part] + (len(row),) + board.sizes[part + 1:]
            self.check(led, sizes, lambda setting: board(setting[:part] + (row[setting[part]],) + setting[part + 1:]))
            self.assertEqual(led_board(board=board, part=part, row=tuple(row)), led)
            self.assertEqual(led.many, board.many)

    def test_led_with_too_many_settings(self):
        board = sums_board()
        self.assertEqual(len(led_board(board, 1, [3] * 1250).marks), 20000)
        told_error(self, InvalidSize, "settings", led_board, board, 1, [3] * 1251)
        self.assertEqual(led_board(Board(2, (2,), (0, 1)), 0, (1,) * 20000).marks, (1,) * 20000)

    def test_marked(self):
        for rng, board in boards(2):
            row = [rng.randrange(board.many) for _ in range(board.many)]
            marked = marked_board(board, row)
            self.check(marked, board.sizes, lambda setting: row[board(setting)])
            self.assertEqual(marked.many, board.many)
            self.assertEqual(marked_board(board=board, row=tuple(row), many=None), marked)
            wide = [rng.randrange(8) for _ in range(board.many)]
            marked = marked_board(board, wide, 8)
            self.check(marked, board.sizes, lambda setting: wide[board(setting)])
            self.assertEqual((marked.many, marked_board(board, wide, many=8)), (8, marked))
        self.assertEqual(marked_board(Board(3, (3,), (0, 1, 2)), (0, 1, 1), 2), Board(2, (3,), (0, 1, 1)))

    def test_turned(self):
        for rng, board in boards(3):
            order = rng.sample(range(len(board)), len(board))
            turned = turned_board(board=board, order=order)
            self.assertEqual(turned.many, board.many)
            self.check(turned, pick(board.sizes, order),
                       lambda setting: board(tuple(setting[order.index(part)] for part in range(len(board)))))
            self.assertEqual(turned_board(board, tuple(order)), turned)
            back = [order.index(part) for part in range(len(board))]
            self.assertEqual(turned_board(turned, back), board)


class TestHeld(unittest.TestCase):
    def test_held(self):
        for rng, board in boards(4):
            part = rng.randrange(len(board))
            content = rng.randrange(board.sizes[part])
            if len(board) == 1:
                told_error(self, Refused, part, held_board, board, part, content)
                continue
            held = held_board(board=board, part=part, content=content)
            self.assertEqual((held.many, held.sizes), (board.many, board.sizes[:part] + board.sizes[part + 1:]))
            for setting in settings_of(held.sizes):
                self.assertEqual(held(setting), board(setting[:part] + (content,) + setting[part:]))

    def test_parts_held_one_by_one_and_together(self):
        for rng, board in boards(5, 60):
            lot = rng.sample(range(len(board)), rng.randint(0, len(board)))
            pairs = [(part, rng.randrange(board.sizes[part])) for part in lot]
            if len(lot) == len(board):
                told_error(self, Refused, -1, held_parts, board, pairs)
                continue
            held = held_parts(board, pairs)
            self.assertEqual(held_parts(board=board, pairs=tuple(pairs[::-1])), held)
            left = rest(len(board), lot)
            self.assertEqual(held.sizes, pick(board.sizes, left))
            told = dict(pairs)
            for setting in settings_of(held.sizes):
                whole = told | dict(zip(left, setting))
                self.assertEqual(held(setting), board(tuple(whole[part] for part in range(len(board)))))
            for order in itertools.permutations(pairs):
                one_by_one, there = board, list(range(len(board)))
                for part, content in order:
                    one_by_one = held_board(one_by_one, there.index(part), content)
                    there.remove(part)
                self.assertEqual(one_by_one, held)
        self.assertEqual(held_parts(board, ()), board)

    def test_all_held_boards_of_a_part_laid_are_the_board(self):
        for _, board in boards(6):
            for part in range(len(board) if len(board) > 1 else 0):
                layers = [held_board(board, part, content) for content in range(board.sizes[part])]
                self.assertEqual(layered_board(layers, part), board)
                self.assertEqual(layered_board(boards=tuple(layers), part=part), board)

    def test_layers(self):
        rng = seeded(7)
        for _ in range(40):
            first = random_board(rng)
            layers = [Board(first.many, first.sizes, [rng.randrange(first.many) for _ in first.marks]) for _ in range(rng.randint(1, 5))]
            for part in range(len(first) + 1):
                laid = layered_board(layers, part)
                self.assertEqual(laid.sizes, first.sizes[:part] + (len(layers),) + first.sizes[part:])
                for setting in settings_of(laid.sizes):
                    self.assertEqual(laid(setting), layers[setting[part]](setting[:part] + setting[part + 1:]))

    def test_unlike_layers(self):
        one = Board(2, (2, 1), (0, 1))
        for at, other in enumerate((Board(3, (2, 1), (0, 1)), Board(2, (1, 2), (0, 1)), Board(2, (2,), (0, 1)))):
            told_error(self, Refused, at + 1, layered_board, [one] * (at + 1) + [other, other], 0)
        eight = Board(2, (1,) * 8, (0,))
        told_error(self, Refused, 1, layered_board, [eight, one], 0)
        told_error(self, InvalidSize, "parts", layered_board, [eight], 0)
        great = Board(2, (1001,), [0] * 1001)
        self.assertEqual(len(layered_board([great] * 19, 1)), 2)
        told_error(self, InvalidSize, "settings", layered_board, [great] * 20, 1)
        told_error(self, InvalidSize, "parts", layered_board, [Board(2, (1,) * 7 + (1001,), [0] * 1001)] * 20, 1)

    def test_fair_layers(self):
        rng = seeded(8)
        seen = {}
        for _ in range(200):
            many = rng.randint(2, 3)
            layers = [fair_board(rng, many, rng.randint(1, 2)) for _ in range(1)]
            while len(layers) < many:
                layers.append(fair_board(rng, many, len(layers[0])))
            if rng.random() < 0.3:
                layers[0] = Board(many, layers[0].sizes, [0] * len(layers[0].marks))
            apart = all(len({layer(setting) for layer in layers}) == many for setting in settings_of(layers[0].sizes))
            told = apart and all(is_fair(layer) for layer in layers)
            self.assertIs(is_fair(layered_board(layers, 0)), told)
            seen[told] = True
        self.assertEqual(len(seen), 2)


class TestPut(unittest.TestCase):
    def random_inner(self, rng, many):
        sizes = [rng.randint(1, 3) for _ in range(rng.randint(1, 2))]
        return Board(many, sizes, [rng.randrange(many) for _ in settings_of(sizes)])

    def test_put_side_by_side(self):
        for rng, outer in boards(9):
            inners = [self.random_inner(rng, size) if size > 1 and rng.random() < 0.6 else None for size in outer.sizes]
            put = put_boards(outer, inners)
            rows = [(size,) if inner is None else inner.sizes for size, inner in zip(outer.sizes, inners)]
            self.assertEqual((put.many, put.sizes), (outer.many, sum(rows, ())))
            for setting in settings_of(put.sizes):
                contents, at = [], 0
                for inner, row in zip(inners, rows):
                    inside = setting[at:at + len(row)]
                    contents.append(inside[0] if inner is None else inner(inside))
                    at += len(row)
                self.assertEqual(put(setting), outer(tuple(contents)))
            self.assertEqual(put_boards(outer=outer, inners=tuple(inners)), put)
            self.check_one_by_one(outer, inners, put)

    def check_one_by_one(self, outer, inners, put):
        for order in itertools.permutations([part for part, inner in enumerate(inners) if inner]):
            board, first = outer, list(range(len(outer)))
            for part in order:
                board = put_board(board, first[part], inners[part])
                first = [place + (len(inners[part]) - 1 if other > part else 0) for other, place in enumerate(first)]
            self.assertEqual(board, put)

    def test_one_into_another(self):
        rng = seeded(10)
        for _ in range(40):
            many = rng.randint(2, 3)
            one, other, third = (fair_board(rng, many, rng.randint(1, 2)) for _ in range(3))
            part = rng.randrange(len(one))
            inner = rng.randrange(len(other))
            self.assertEqual(put_board(put_board(one, part, other), part + inner, third),
                             put_board(outer=one, part=part, inner=put_board(other, inner, third)))

    def test_fair_exactly_if_all_are(self):
        rng = seeded(11)
        seen = {}
        for _ in range(80):
            many = rng.randint(2, 3)
            pieces = []
            for _ in range(3):
                board = fair_board(rng, many, rng.randint(1, 2))
                if rng.random() < 0.2:
                    board = Board(many, board.sizes, board.marks[::-1][1:] + (0,))
                pieces.append(board)
            outer, inners = pieces[0], (pieces[1:] + [None])[:len(pieces[0])]
            told = all(is_fair(board) for board in [outer] + inners if board)
            self.assertIs(is_fair(put_boards(outer, inners)), told)
            seen[told] = True
        self.assertEqual(len(seen), 2)

    def test_refusals_in_order(self):
        two = Board(2, (2, 2, 2), [0] * 8)
        three = Board(3, (1,) * 7, (0,))
        told_error(self, Refused, 1, put_boards, two, (None, three, three))
        told_error(self, Refused, 0, put_board, two, 0, three)
        wide = Board(2, (1,) * 7, (0,))
        told_error(self, InvalidSize, "parts", put_board, two, 1, wide)
        told_error(self, InvalidSize, "parts", put_boards, two, (wide, wide, wide))
        great = Board(2, (141,) + (1,) * 4, [0] * 141)
        told_error(self, InvalidSize, "settings", put_board, two, 2, Board(2, (5001,), [0] * 5001))
        told_error(self, InvalidSize, "parts", put_boards, two, (great, great, None))
        told_error(self, InvalidSize, "settings", put_boards, two, (Board(2, (141,), [0] * 141), Board(2, (142,), [0] * 142), None))
        self.assertEqual(len(put_board(two, 2, Board(2, (5000,), [0] * 5000)).marks), 20000)
        self.assertEqual(len(put_board(two, 2, Board(2, (1,) * 6, (1,)))), 8)


class TestTwins(unittest.TestCase):
    def test_tied(self):
        for _, board in boards(12):
            for lot in lots_of(len(board)):
                inner = settings_of(pick(board.sizes, lot))
                outer = settings_of(pick(board.sizes, rest(len(board), lot)))
                tied = tied_board(board, lot)
                self.assertEqual((tied.many, tied.sizes), (board.many, (len(inner), len(outer))))
                for i, u in enumerate(inner):
                    for j, w in enumerate(outer):
                        told = dict(zip(lot, u)) | dict(zip(rest(len(board), lot), w))
                        self.assertEqual(tied((i, j)), board(tuple(told[part] for part in range(len(board)))))
                self.assertEqual(tied_board(board=board, lot=list(lot)), tied)

    def is_twin(self, board, part, one, other):
        for setting in settings_of(board.sizes):
            if setting[part] == one and board(setting) != board(setting[:part] + (other,) + setting[part + 1:]):
                return False
        return True

    def test_twins(self):
        count = 0
        for rng, board in boards(13, 60):
            part = rng.randrange(len(board))
            board = led_board(board, part, [rng.randrange(board.sizes[part]) for _ in range(rng.randint(1, 5))])
            names = merged_names(board)
            for part, size in enumerate(board.sizes):
                lots = []
                for content in range(size):
                    twins = [lot for lot in lots if self.is_twin(board, part, lot[0], content)]
                    if twins:
                        twins[0].append(content)
                        count += 1
                    else:
                        lots.append([content])
                self.assertEqual(twin_lots(board=board, part=part), tuple(tuple(lot) for lot in lots))
                told = [[number for number, lot in enumerate(lots) if content in lot][0] for content in range(size)]
                self.assertEqual(names[part], tuple(told))
            self.assertFalse(has_lists(names))
            merged = merged_board(board=board)
            self.assertEqual(merged.sizes, tuple(max(row) + 1 for row in names))
            for setting in settings_of(board.sizes):
                self.assertEqual(merged(tuple(row[content] for row, content in zip(names, setting))), board(setting))
            for part, size in enumerate(merged.sizes):
                self.assertEqual(twin_lots(merged, part), tuple((content,) for content in range(size)))
            self.assertEqual(merged_board(merged), merged)
        self.assertGreater(count, 20)


if __name__ == "__main__":
    unittest.main()
