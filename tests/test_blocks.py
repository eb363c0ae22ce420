"""[20], [21]: blocks of boards of two marks, their bits, odd squares and roads over them."""

import itertools
import time
import unittest

from oncetested.blocks import block_bits, bits_hold, mark_blocks, odd_road, odd_road_holds, odd_square
from oncetested.boards import Board
from oncetested.errors import InvalidLot, Refused
from shaping import looked_lots
from support import any_values, as_lists, has_lists, lots_of, pick, seeded, settings_of, told_error


def boards(number, count):
    """Boards of two marks: the parity of bits of some lots."""
    rng = seeded(number)
    for _ in range(count):
        sizes = tuple(rng.randint(1, 3) for _ in range(rng.randint(1, 4)))
        lots = [rng.choice(lots_of(len(sizes))) for _ in range(rng.randint(1, 3))]
        if rng.random() < 0.6:
            lots = [lot for lot in lots if len(lot) < 3] or [(0,)]
        bits = [{contents: rng.randrange(2) for contents in settings_of(pick(sizes, lot))} for lot in lots]
        yield rng, Board(2, sizes, [sum(row[pick(s, lot)] for lot, row in zip(lots, bits)) % 2 for s in settings_of(sizes)])


def changed(setting, pairs):
    told = dict(pairs)
    return tuple(told.get(part, content) for part, content in enumerate(setting))


def is_odd(board, one, other, setting, content, third):
    corners = [setting, changed(setting, [(one, content)]), changed(setting, [(other, third)]), changed(setting, [(one, content), (other, third)])]
    return sum(board(corner) for corner in corners) % 2 == 1


def squares(board, one, other):
    """All odd squares with greater contents, ascending."""
    found = []
    for setting in settings_of(board.sizes):
        for content in range(setting[one] + 1, board.sizes[one]):
            for third in range(setting[other] + 1, board.sizes[other]):
                if one != other and is_odd(board, one, other, setting, content, third):
                    found.append((setting, content, third))
    return found


def distances(board, one):
    """The fewest steps from a part to each other one."""
    steps = {one: 0}
    near = [one]
    while near:
        here = near.pop(0)
        for part in range(len(board)):
            if part not in steps and squares(board, here, part):
                steps[part] = steps[here] + 1
                near.append(part)
    return steps


class TestErrors(unittest.TestCase):
    def test_another_number_of_marks(self):
        for many in (3, 8):
            board = Board(many, (2, 2), (0, 1, 1, 0))
            for call, further in ((mark_blocks, ()), (block_bits, ()), (bits_hold, (None,)), (odd_square, (None, None)), (odd_road, (7, None)),
                                  (odd_road_holds, (None, -1, None))):
                told_error(self, Refused, many, call, board, *further)

    def test_no_parts(self):
        board = Board(2, (2, 2, 2), (0, 1, 1, 0, 1, 0, 0, 1))
        for value in any_values() + [3, -1]:
            if not (type(value) is int and 0 <= value < 3):
                for call, further in ((odd_square, ()), (odd_road, ()), (odd_road_holds, ((),))):
                    told_error(self, InvalidLot, 0, call, board, value, 0, *further)
                    told_error(self, InvalidLot, 0, call, board, 2, value, *further)
                    told_error(self, InvalidLot, 0, call, board, value, value, *further)


class TestBlocks(unittest.TestCase):
    def test_by_all_one_test_lots(self):
        counts = set()
        for _, board in boards(1, 80):
            one_test = looked_lots(board)
            blocks = mark_blocks(board=board)
            self.assertEqual(sorted(part for block in blocks for part in block), list(range(len(board))))
            self.assertEqual(list(blocks), sorted(blocks))
            unions = set()
            for many in range(1, len(blocks) + 1):
                for some in itertools.combinations(blocks, many):
                    unions.add(tuple(sorted(part for block in some for part in block)))
            self.assertEqual(sorted(unions), one_test)
            counts.add((len(board), len(blocks)))
        self.assertTrue({(1, 1), (2, 1), (2, 2), (3, 2), (4, 2), (4, 3)} <= counts)

    def test_bits(self):
        for _, board in boards(2, 80):
            blocks, base, rows = block_bits(board=board)
            zeros = (0,) * len(board)
            self.assertEqual((blocks, base, len(rows)), (mark_blocks(board), board(zeros), len(blocks)))
            self.assertFalse(has_lists((blocks, rows)))
            for block, row in zip(blocks, rows):
                contents = settings_of(pick(board.sizes, block))
                self.assertEqual(row, tuple(int(board(changed(zeros, zip(block, each))) != base) for each in contents))
            for setting in settings_of(board.sizes):
                bits = [row[settings_of(pick(board.sizes, block)).index(pick(setting, block))] for block, row in zip(blocks, rows)]
                self.assertEqual((base + sum(bits)) % 2, board(setting))
            self.assertIs(bits_hold(board, (blocks, base, rows)), True)
            self.assertIs(bits_hold(board=board, value=(blocks, base, rows)), True)

    def test_example(self):
        board = Board(2, (2, 2, 2), (0, 1, 0, 1, 0, 1, 1, 0))
        self.assertEqual(block_bits(board), (((0, 1), (2,)), 0, ((0, 0, 0, 1), (0, 1))))
        self.assertEqual(odd_square(board, 0, 1), ((0, 0, 0), 1, 1))
        self.assertEqual(mark_blocks(Board(2, (3, 1), (1, 1, 1))), ((0,), (1,)))

    def test_greater_lots_and_other_bits(self):
        for rng, board in boards(3, 60):
            blocks, base, rows = block_bits(board)
            for _ in range(3):
                # Blocks are joined, and the base goes over to bits.
                cut = rng.randint(1, len(blocks))
                joined = tuple(sorted(part for block in blocks[:cut] for part in block))
                lots = tuple(sorted((joined,) + blocks[cut:]))
                told = []
                for lot in lots:
                    row = []
                    for contents in settings_of(pick(board.sizes, lot)):
                        held = dict(zip(lot, contents))
                        row.append(sum(bits[settings_of(pick(board.sizes, block)).index(tuple(held[part] for part in block))]
                                       for block, bits in zip(blocks, rows) if set(block) <= set(lot)) % 2)
                    told.append(tuple(row))
                told = tuple(told)
                self.assertIs(bits_hold(board, (lots, base, told)), True)
                turned = (tuple(1 - bit for bit in told[0]),) + told[1:]
                self.assertIs(bits_hold(board, (lots, 1 - base, turned)), True)
                self.assertIs(bits_hold(board, (lots, base, turned)), False)
                self.assertIs(bits_hold(board, (lots, 1 - base, told)), False)
                at = rng.randrange(len(told[-1]))
                spoilt = told[:-1] + (told[-1][:at] + (1 - told[-1][at],) + told[-1][at + 1:],)
                self.assertIs(bits_hold(board, (lots, base, spoilt)), False)

    def test_spoilt_bits(self):
        board = Board(2, (2, 2, 2), (0, 1, 0, 1, 0, 1, 1, 0))
        lots, base, rows = ((0, 1), (2,)), 0, ((0, 0, 0, 1), (0, 1))
        self.assertIs(bits_hold(board, (lots, base, rows)), True)
        for value in ([lots, base, rows], (list(lots), base, rows), (as_lists(lots), base, rows), (lots, base, list(rows)), (lots, base, tuple(as_lists(rows))),
                      (lots, False, rows), (lots, 2, rows), (lots, None, rows), (lots, base), (lots, base, rows, rows), (lots[::-1], base, rows[::-1]),
                      (((1, 0), (2,)), base, rows), (((0, 1),), base, rows[:1]), (((0, 1), (2,), ()), base, rows + ((0,),)), (((0, 1), (1, 2)), base, rows),
                      (((0, 1), (2,), (2,)), base, rows + ((0, 0),)), (((0, 1), (3,)), base, rows), (((0, True), (2,)), base, rows), (lots, base, rows[:1]),
                      (lots, base, rows + ((0,),)), (lots, base, ((0, 0, 0), (0, 1))), (lots, base, ((0, 0, 0, 1, 0), (0, 1))),
                      (lots, base, ((0, 0, 0, 1), (False, True))), (lots, base, ((0, 0, 0, 1), (0, 2))), (lots, base, ((2, 0, 0, 1), (0, 1))),
                      (lots, base, ((0, 0, 0, 1), (0, 3))), (lots, base, ((0, 0, 0, -1), (0, 1))), (lots, base, ((0, 0, 0, 1), "01")), (lots, base, None),
                      (None, base, rows), (((), (0, 1), (2,)), base, ((0,),) + rows), ((0, (2,)), base, rows)):
            self.assertIs(bits_hold(board, value), False)
        for value in any_values():
            self.assertIs(bits_hold(board, value), False)
        # Lots that are no unions of blocks cannot have such bits.
        for bits in itertools.product((0, 1), repeat=7):
            self.assertIs(bits_hold(board, (((0,), (1, 2)), bits[0], (bits[1:3], bits[3:]))), False)
        self.assertIs(bits_hold(board, (((0, 1, 2),), 0, (board.marks,))), True)
        self.assertIs(bits_hold(board, (((0, 1, 2),), 1, (tuple(1 - mark for mark in board.marks),))), True)


class TestSquares(unittest.TestCase):
    def test_least_squares(self):
        seen = set()
        for _, board in boards(4, 60):
            for one, other in itertools.product(range(len(board)), repeat=2):
                found = squares(board, one, other)
                told = found[0] if found else None
                self.assertEqual(odd_square(board, one, other), told)
                self.assertEqual(odd_square(board=board, one=one, other=other), told)
                self.assertTrue(one != other or told is None)
                seen.add(told is None)
        self.assertEqual(len(seen), 2)

    def test_roads(self):
        lengths = set()
        for _, board in boards(5, 80):
            blocks = mark_blocks(board)
            for one in range(len(board)):
                steps = distances(board, one)
                for other in range(len(board)):
                    road = odd_road(board, one, other)
                    self.assertEqual(odd_road(board=board, one=one, other=other), road)
                    self.assertIs(road is not None, any(one in block and other in block for block in blocks))
                    self.assertIs(other in steps, road is not None)
                    if road is not None:
                        self.assertFalse(has_lists(road))
                        self.assertEqual(len(road), steps[other])
                        self.check_road(board, one, other, road)
                        lengths.add(len(road))
                    else:
                        self.assertIs(odd_road_holds(board, one, other, ()), False)
        self.assertTrue({0, 1, 2} <= lengths)

    def check_road(self, board, one, other, road):
        here = one
        for part, further, setting, content, third in road:
            self.assertEqual(part, here)
            self.assertTrue(is_odd(board, part, further, setting, content, third))
            here = further
        self.assertEqual(here, other)
        self.assertIs(odd_road_holds(board, one, other, road), True)
        self.assertIs(odd_road_holds(board=board, one=one, other=other, value=road), True)
        back = tuple((further, part, setting, third, content) for part, further, setting, content, third in road[::-1])
        self.assertIs(odd_road_holds(board, other, one, back), True)
        self.assertIs(odd_road_holds(board, one, one, road + back), True)
        self.assertIs(odd_road_holds(board, one, other, road + back + road), True)

    def test_lesser_contents(self):
        for rng, board in boards(6, 40):
            for one, other in itertools.permutations(range(len(board)), 2):
                for setting in settings_of(board.sizes):
                    content, third = rng.randrange(board.sizes[one]), rng.randrange(board.sizes[other])
                    odd = is_odd(board, one, other, setting, content, third)
                    self.assertIs(odd_road_holds(board, one, other, ((one, other, setting, content, third),)), odd)

    def test_spoilt_roads(self):
        board = Board(2, (2, 2, 2), (0, 0, 0, 1, 0, 0, 1, 0))
        road = odd_road(board, 0, 2)
        step = road[0]
        self.assertIs(odd_road_holds(board, 0, 2, road), True)
        for value in (list(road), (list(step),) + road[1:], road[1:], road[::-1], road + road, road + (None,), (step[:4],), (step + (0,),), None, step,
                      (step[:2] + (list(step[2]),) + step[3:],) + road[1:], (step[:2] + (step[2][:-1],) + step[3:],) + road[1:],
                      ((False,) + step[1:],) + road[1:], (step[:3] + (bool(step[3]),) + step[4:],) + road[1:], (step[:4] + (True,),) + road[1:],
                      (step[:4] + (2,),) + road[1:], (step[:4] + (-1,),) + road[1:], (step[:3] + (2,) + step[4:],) + road[1:],
                      ((step[0], 3) + step[2:],) + road[1:], ((step[0], True) + step[2:],) + road[1:], ((step[0], None) + step[2:],) + road[1:],
                      (step[:2] + ((0, 0, 2),) + step[3:],) + road[1:], (step[:3] + (step[2][step[0]],) + step[4:],) + road[1:]):
            self.assertIs(odd_road_holds(board, 0, 2, value), False)
        for value in any_values():
            self.assertIs(odd_road_holds(board, 0, 2, value), False)
            self.assertIs(odd_road_holds(board, 1, 1, value), type(value) is tuple and value == ())
            self.assertIs(odd_road_holds(board, 0, 2, (value,)), False)
        wide = Board(2, (3, 2), (0, 0, 1, 0, 1, 1))
        for setting in settings_of((3, 2)):
            for content, third in itertools.product(range(3), repeat=2):
                self.assertIs(odd_road_holds(wide, 0, 0, ((0, 0, setting, content, third),)), False)

    def test_limits(self):
        started = time.time()
        rng = seeded(7)
        for sizes in ((2, 2, 2, 2, 4), (2,) * 5, (4, 4, 4), (8, 8), (64,), (1, 1, 1, 1, 64)):
            for dense in (True, False):
                board = Board(2, sizes, [rng.randrange(2) if dense else sum(setting) // 2 % 2 for setting in settings_of(sizes)])
                self.assertIs(bits_hold(board, block_bits(board)), True)
                for one, other in itertools.product(range(len(sizes)), repeat=2):
                    road = odd_road(board, one, other)
                    self.assertTrue(road is None or odd_road_holds(board, one, other, road))
        self.assertLess(time.time() - started, 20)


if __name__ == "__main__":
    unittest.main()
