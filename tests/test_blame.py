"""[81]: which wrong parts fit what is seen, by calling each leaf and knot right or wrong."""

import itertools
import time
import unittest

from oncetested.blame import blame_counts, blame_fits, blame_setting, nth_blame
from oncetested.boards import Board
from oncetested.errors import InvalidSize, Refused
from oncetested.readings import lot_reading
from oncetested.trees import shape_of
from shaping import inner_lots, kinds_of_boards, leaves, lot_of, random_shape
from support import any_values, has_lists, lots_of, pick, seeded, settings_of, sums_board, told_error


def trees(shape):
    return [shape] if isinstance(shape, int) else [shape] + [tree for child in shape[1] for tree in trees(child)]


def callings(tree, lot):
    """All ways to call the leaves and knots of a tree right or wrong: dicts by lots, True for wrong."""
    if isinstance(tree, int):
        return [{(tree,): tree in lot}]
    found = []
    for below in itertools.product(*[callings(child, lot) for child in tree[1]]):
        calls = {key: value for part in below for key, value in part.items()}
        wrong = sum(calls[lot_of(child)] for child in tree[1])
        for call in [False] if wrong == 0 else [True] if wrong == 1 else [False, True]:
            found.append(calls | {lot_of(tree): call})
    return found


def fits(shape, wrong, right, lot):
    return any(all(calls[one] for one in wrong) and not any(calls[one] for one in right) for calls in callings(shape, lot))


def some_seen(rng, shape):
    strong = [lot_of(tree) for tree in trees(shape)]
    wrong = rng.sample(strong, rng.randint(0, min(2, len(strong))))
    right = rng.sample(strong, rng.randint(0, min(2, len(strong))))
    return wrong, right


class TestFits(unittest.TestCase):
    def test_by_calling_all(self):
        rng = seeded(1)
        answers = {True: 0, False: 0}
        for _ in range(120):
            parts = rng.randint(1, 5)
            shape = random_shape(rng, list(range(parts)))
            wrong, right = some_seen(rng, shape)
            told = {lot: fits(shape, wrong, right, lot) for lot in [()] + lots_of(parts)}
            for lot, answer in told.items():
                self.assertIs(blame_fits(shape, wrong, right, lot), answer)
                self.assertIs(blame_fits(shape=shape, wrong=tuple(map(list, wrong)), right=tuple(map(list, right)), lot=list(lot)), answer)
                answers[answer] += 1
            self.check_numbers(rng, shape, wrong, right, sorted(lot for lot in told if told[lot]))
        self.assertGreater(min(answers.values()), 200)

    def check_numbers(self, rng, shape, wrong, right, lots):
        parts = len(leaves(shape))
        counts = tuple(sum(len(lot) == size for lot in lots) for size in range(parts + 1))
        self.assertEqual(blame_counts(shape, wrong, right), counts)
        self.assertEqual(blame_counts(shape=shape, wrong=tuple(map(list, wrong)), right=tuple(map(list, right))), counts)
        for size in range(parts + 1):
            sized = [lot for lot in lots if len(lot) == size]
            self.assertEqual([nth_blame(shape, wrong, right, size, number) for number in range(len(sized))], sized)
            for value in (len(sized), -1, True, None, "0", 10 ** 30, [0]):
                told_error(self, InvalidSize, "number", nth_blame, shape, wrong, right, size, value)
        told_error(self, InvalidSize, "number", nth_blame, shape, wrong, right, parts + 1, 0)

    def test_one_is_wrong_and_right(self):
        self.assertEqual(blame_counts(("bare", (0, 1)), [(0,)], [(0,)]), (0, 0, 0))
        self.assertEqual(blame_counts(0, [(0,)], []), (0, 1))
        self.assertEqual(blame_counts(0, [], []), (1, 1))
        self.assertIs(blame_fits(("bare", (0, 1)), [], [(0, 1)], (0,)), False)
        self.assertIs(blame_fits(("bare", (0, 1)), [], [(0, 1)], (0, 1)), True)

    def test_example(self):
        self.assertEqual(blame_counts(("bare", (("bare", (0, 1)), 2)), ((0, 1, 2),), ((0, 1),)), (0, 1, 0, 1))

    def test_any_values(self):
        shape = ("bare", (("bare", (0, 1)), 2))
        for value in any_values():
            if not (type(value) is int and 0 <= value < 3):
                told_error(self, InvalidSize, "number", nth_blame, shape, (), (), 2, value)
            if not (type(value) is int and 0 <= value <= 3):
                told_error(self, InvalidSize, "number", nth_blame, shape, (), (), value, 0)
        self.assertEqual(nth_blame(shape=shape, wrong=[[0, 1, 2]], right=[[0, 1]], size=1, number=0), (2,))


class TestSettings(unittest.TestCase):
    def test_by_trying_all(self):
        rng = seeded(2)
        found = {True: 0, False: 0}
        for board, _ in kinds_of_boards(rng):
            if board.many < 4 or len(board.marks) > 520:
                continue
            shape = shape_of(board)
            readings = {lot_of(tree): lot_reading(board, lot_of(tree))[0] for tree in trees(shape)}
            for _ in range(4):
                wrong, right = some_seen(rng, shape)
                setting = tuple(rng.randrange(board.many) for _ in board.sizes)
                least = {}
                for other in settings_of(board.sizes):
                    lot = tuple(part for part, content in enumerate(other) if content != setting[part])
                    if lot not in least and self.is_seen(board, readings, setting, other, wrong, right):
                        least[lot] = other
                for lot in [()] + lots_of(len(board)):
                    told = blame_setting(board, setting, wrong, right, lot)
                    self.assertEqual(told, least.get(lot))
                    self.assertFalse(has_lists(told))
                    self.assertIs(told is None, not fits(shape, wrong, right, lot))
                    self.assertIs(told is None, not blame_fits(shape, wrong, right, lot))
                    found[told is None] += 1
                lot = rng.choice(lots_of(len(board)))
                self.assertEqual(blame_setting(board=board, setting=list(setting), wrong=tuple(map(list, wrong)), right=tuple(map(list, right)), lot=list(lot)),
                                 least.get(lot))
        self.assertGreater(min(found.values()), 40)

    def is_seen(self, board, readings, setting, other, wrong, right):
        for lots, is_wrong in ((wrong, True), (right, False)):
            for lot in lots:
                numbers = settings_of([board.many] * len(lot))
                one, two = [readings[lot][numbers.index(pick(each, lot))] for each in (setting, other)]
                if (one != two) != is_wrong:
                    return False
        return True

    def test_the_lot_of_all_parts_is_the_mark(self):
        board = sums_board()
        self.assertEqual(blame_setting(board, (0, 0, 0), [], [(0, 1, 2)], (0, 1)), (1, 3, 0))
        self.assertEqual(blame_setting(board, (0, 0, 0), [(0, 1, 2)], [], (0, 1)), (1, 1, 0))
        self.assertEqual(blame_setting(board, (1, 2, 3), [], [], ()), (1, 2, 3))
        self.assertIsNone(blame_setting(board, (1, 2, 3), [(0,)], [], ()))

    def test_boards_that_are_not_fair(self):
        told_error(self, Refused, ("twice", 1, (0, 0), 1), blame_setting, Board(2, (2, 2), (0, 0, 1, 1)), (0, 0), [], [], (0,))


class TestLimits(unittest.TestCase):
    def test_16_parts(self):
        started = time.time()
        rng = seeded(3)
        for _ in range(30):
            shape = random_shape(rng, list(range(16)))
            wrong, right = some_seen(rng, shape)
            counts = blame_counts(shape, wrong, right)
            self.assertLessEqual(sum(counts), 2 ** 16)
            for size, count in enumerate(counts):
                if count:
                    for number in {0, count // 2, count - 1}:
                        lot = nth_blame(shape, wrong, right, size, number)
                        self.assertEqual(len(lot), size)
                        self.assertTrue(blame_fits(shape, wrong, right, lot))
        whole = ("free", tuple(range(16)))
        counts = blame_counts(whole, [], [])
        self.assertEqual((counts[8], sum(counts)), (12870, 65536))
        self.assertEqual(nth_blame(whole, [], [], 8, 12869), tuple(range(8, 16)))
        self.assertLess(time.time() - started, 30)

    def test_512_settings(self):
        started = time.time()
        board = Board(8, (8, 8, 8), [x ^ y ^ z for x, y, z in settings_of((8, 8, 8))])
        self.assertEqual(blame_setting(board, (0, 0, 0), [(1,)], [(0, 1, 2)], (0, 1, 2)), (1, 2, 3))
        self.assertIsNone(blame_setting(board, (0, 0, 0), [(0, 1, 2)], [(1,)], (0, 1, 2)))
        self.assertTrue(set(inner_lots(shape_of(board))) >= {(0, 1), (0, 1, 2)})
        self.assertLess(time.time() - started, 20)


if __name__ == "__main__":
    unittest.main()
