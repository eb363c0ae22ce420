"""[26], [27], [28]: shapes of boards, noes of three, common shapes, swung boards."""

import itertools
import unittest

from oncetested.boards import Board
from oncetested.errors import Refused
from oncetested.shapes import is_shape
from oncetested.trees import common_shape, shape_by_nos, shape_of, swung_board, swung_shape, three_nos
from shaping import SIX, all_shapes, inner_lots, kinds_of_boards, leaves, looked_lots, random_shape, tree_board
from support import (cycle_rows, fair_board, has_lists, lots_of, odd_board, rest, seeded, settings_of, sums_board,
                     told_error)


def small_boards(number, count):
    rng = seeded(number)
    for _ in range(count):
        many = rng.randint(2, 5)
        yield fair_board(rng, many, rng.randint(1, 4 if many < 4 else 3))


def sought_nos(board):
    """All noes of three, by the words: some change stays at one content and not at another one."""
    found = []
    parts = range(len(board))
    for pair in itertools.combinations(parts, 2):
        for part in parts:
            if part not in pair and is_sought(board, pair, part):
                found.append((pair, part))
    return tuple(sorted(found))


def is_sought(board, pair, part):
    many = board.many
    others = [place for place in range(len(board)) if place not in pair + (part,)]
    for held in settings_of((many,) * len(others)):
        told = dict(zip(others, held))
        rows = []
        for content in range(many):
            told[part] = content
            row = []
            for x, z in settings_of((many, many)):
                told[pair[0]], told[pair[1]] = x, z
                row.append(board(tuple(told[place] for place in range(len(board)))))
            rows.append(row)
        for one, other in itertools.combinations(range(many * many), 2):
            if len({row[one] == row[other] for row in rows}) == 2:
                return True
    return False


def swung_lots(lots, parts, part):
    """The lots of swung boards, by those of the board."""
    found = [lot for lot in lots if part not in lot]
    return sorted(found + [tuple(sorted((part,) + rest(parts, lot))) for lot in lots if part in lot])


class TestShapes(unittest.TestCase):
    def test_boards_that_are_not_fair(self):
        for board, fault in ((Board(2, (2, 2), (0, 0, 1, 1)), ("twice", 1, (0, 0), 1)), (Board(3, (3, 2), (0,) * 6), ("size", 1)),
                             (Board(2, (3,), (0, 1, 0)), ("size", 0))):
            for call, further in ((shape_of, ()), (three_nos, ()), (swung_board, (0,))):
                told_error(self, Refused, fault, call, board, *further)

    def test_small_boards(self):
        kinds = set()
        for board in small_boards(1, 60):
            shape = shape_of(board=board)
            self.assertTrue(is_shape(shape))
            self.assertFalse(has_lists(shape))
            self.assertEqual(inner_lots(shape), looked_lots(board))
            kinds.add(shape if shape == 0 else (shape[0], len(shape[1])))
        self.assertGreater(len(kinds), 3)

    def test_each_kind_of_knot(self):
        for board, shape in kinds_of_boards(seeded(2)):
            self.assertEqual(shape_of(board), shape)
            self.assertEqual(inner_lots(shape), looked_lots(board))
        self.assertEqual(shape_of(odd_board()), ("bare", (0, 1, 2)))
        self.assertEqual(shape_of(sums_board()), ("free", (0, 1, 2)))

    def test_overlapping_lots(self):
        for board, _ in kinds_of_boards(seeded(3)):
            lots = set(looked_lots(board))
            for one, other in itertools.permutations(lots, 2):
                meet, less = set(one) & set(other), set(one) - set(other)
                if meet and less and set(other) - set(one):
                    for made in (meet, less, set(one) | set(other)):
                        self.assertIn(tuple(sorted(made)), lots)

    def test_two_and_three_marks(self):
        for board in small_boards(4, 30):
            if board.many < 4 and len(board) > 2:
                self.assertEqual(shape_of(board), ("free", tuple(range(len(board)))))

    def test_1300_settings(self):
        line = tree_board(6, ("line", (3, 0, 1, 2)), {"line": SIX})
        self.assertEqual(shape_of(line), ("line", (2, 1, 0, 3)))
        for many, parts in ((2, 8), (3, 6), (4, 5)):
            board = tree_board(many, ("free", tuple(range(parts))), {"free": cycle_rows(many)})
            self.assertEqual(shape_of(board), ("free", tuple(range(parts))))
            self.assertEqual(three_nos(board), ())
        self.assertEqual(swung_board(swung_board(line, 1), 1), line)


class TestNos(unittest.TestCase):
    def test_by_a_search(self):
        for board in list(small_boards(5, 30)) + [board for board, _ in kinds_of_boards(seeded(6)) if len(board.marks) < 300]:
            told = three_nos(board=board)
            self.assertEqual(told, sought_nos(board))
            for lot in lots_of(len(board)):
                barred = any(x in lot and z in lot and y not in lot for (x, z), y in told)
                self.assertIs(lot in looked_lots(board), not barred)

    def test_shapes_told_by_noes_in_any_order(self):
        rng = seeded(7)
        for board, shape in kinds_of_boards(rng):
            nos = list(three_nos(board))
            for _ in range(3):
                self.assertEqual(shape_by_nos(len(board), nos), shape)
                self.assertEqual(shape_by_nos(many=len(board), nos=tuple(nos)), shape)
                rng.shuffle(nos)
            self.assertEqual(shape_by_nos(len(board), nos[::-1] + nos), shape)
        self.assertEqual(shape_by_nos(1, ()), 0)
        self.assertEqual(shape_by_nos(2, []), ("bare", (0, 1)))
        self.assertEqual(shape_by_nos(3, []), ("free", (0, 1, 2)))
        self.assertEqual(shape_by_nos(3, [((0, 2), 1)]), ("line", (0, 1, 2)))
        self.assertEqual(shape_by_nos(3, [((1, 2), 0), ((0, 2), 1)]), ("bare", (("bare", (0, 1)), 2)))
        self.assertEqual(shape_by_nos(3, [((1, 2), 0), ((0, 2), 1), ((0, 1), 2)]), ("bare", (0, 1, 2)))

    def test_shapes_told_by_the_noes_of_their_lots(self):
        rng = seeded(8)
        for _ in range(40):
            many = rng.randint(1, 8)
            shape = random_shape(rng, list(range(many)))
            lots = inner_lots(shape)
            nos = [(pair, part) for pair in itertools.combinations(range(many), 2) for part in range(many) if part not in pair
                   and not any(pair[0] in lot and pair[1] in lot and part not in lot for lot in lots)]
            rng.shuffle(nos)
            # Just these parts lie in each inner lot above the pair.
            self.assertEqual(shape_by_nos(many, nos), shape)


class TestCommonShapes(unittest.TestCase):
    def test_all_inner_lots(self):
        rng = seeded(9)
        for at in range(120):
            many = rng.randint(1, 7)
            one, other = random_shape(rng, list(range(many))), random_shape(rng, list(range(many)))
            if at % 3 == 0 and many > 2:
                order = rng.sample(range(many), many)
                one = ("line", tuple(order if order[0] < order[-1] else order[::-1]))
                other = rng.choice((("free", tuple(range(many))), ("line", tuple(range(many)))))
            told = common_shape(one, other)
            self.assertTrue(is_shape(told))
            self.assertEqual(inner_lots(told), sorted(set(inner_lots(one)) & set(inner_lots(other))))
            self.assertEqual(common_shape(one=other, other=one), told)
            self.assertEqual(common_shape(one, one), one)

    def test_by_hand(self):
        line, free = ("line", (0, 1, 2, 3)), ("free", (0, 1, 2, 3))
        self.assertEqual(common_shape(line, free), line)
        self.assertEqual(common_shape(line, ("line", (0, 2, 1, 3))), ("line", (0, ("bare", (1, 2)), 3)))
        self.assertEqual(common_shape(line, ("line", (1, 0, 3, 2))), ("bare", (("bare", (0, 1)), ("bare", (2, 3)))))
        self.assertEqual(common_shape(0, 0), 0)

    def test_16_parts(self):
        free, line = ("free", tuple(range(16))), ("line", tuple(range(16)))
        self.assertEqual(common_shape(free, free), free)
        self.assertEqual(common_shape(line, free), line)
        halves = ("bare", (("line", tuple(range(8))), ("free", tuple(range(8, 16)))))
        self.assertEqual(common_shape(halves, line), ("bare", (("line", tuple(range(8))), ("line", tuple(range(8, 16))))))


class TestSwung(unittest.TestCase):
    def test_boards(self):
        for board in small_boards(10, 20):
            for part in range(len(board)):
                swung = swung_board(board=board, part=part)
                for setting in settings_of(board.sizes):
                    turned = setting[:part] + (board(setting),) + setting[part + 1:]
                    self.assertEqual(swung(turned), setting[part])
                self.assertEqual(swung_board(swung, part), board)
                self.assertEqual(looked_lots(swung), swung_lots(looked_lots(board), len(board), part))

    def test_hung_at_each_leaf(self):
        for board, shape in kinds_of_boards(seeded(11)):
            for part in range(len(board)):
                if len(board.marks) < 600 or part == 1:
                    self.assertEqual(shape_of(swung_board(board, part)), swung_shape(shape, part))

    def test_shapes(self):
        self.assertEqual(swung_shape(("line", (0, ("free", (1, 3, 4)), 2)), 3), ("free", (("line", (0, 3, 2)), 1, 4)))
        self.assertEqual(swung_shape(0, 0), 0)
        self.assertEqual(swung_shape(("line", (0, 1, 2, 3)), 0), ("line", (0, 3, 2, 1)))
        self.assertEqual(swung_shape(("line", (0, 1, 2, 3)), 2), ("line", (1, 0, 2, 3)))
        rng = seeded(12)
        shapes = [random_shape(rng, list(range(rng.randint(2, 8)))) for _ in range(60)] + all_shapes(range(4))
        for shape in shapes:
            parts = len(leaves(shape))
            for part in range(parts):
                swung = swung_shape(shape=shape, part=part)
                self.assertTrue(is_shape(swung))
                self.assertEqual(inner_lots(swung), swung_lots(inner_lots(shape), parts, part))
                self.assertEqual(swung_shape(swung, part), shape)
        great = random_shape(rng, list(range(16)))
        for part in range(16):
            self.assertEqual(swung_shape(swung_shape(great, part), part), great)

    def test_the_same_tree(self):
        def counts(tree):
            return [] if isinstance(tree, int) else sorted([(tree[0], len(tree[1]))] + [k for child in tree[1] for k in counts(child)])
        rng = seeded(13)
        for _ in range(30):
            shape = random_shape(rng, list(range(12)))
            self.assertEqual(counts(swung_shape(shape, rng.randrange(12))), counts(shape))


class TestArguments(unittest.TestCase):
    def test_nothing_is_changed(self):
        nos = [((0, 2), 1)]
        self.assertEqual(shape_by_nos(3, nos), ("line", (0, 1, 2)))
        self.assertEqual(nos, [((0, 2), 1)])
        board = odd_board()
        swung_board(board, 1)
        self.assertEqual(board, odd_board())
        self.assertEqual(three_nos(board), (((0, 1), 2), ((0, 2), 1), ((1, 2), 0)))


if __name__ == "__main__":
    unittest.main()
