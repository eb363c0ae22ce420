"""[18], [19]: hulls, chains and papers of them, meets above lots, key lots."""

import itertools
import time
import unittest

from oncetested.boards import Board
from oncetested.errors import InvalidLot
from oncetested.hulls import hull_chain, hull_of, hull_paper, key_lots, meet_above, shown_hull, single_hulls
from oncetested.looks import no_holds
from oncetested.readings import least_no, lot_reading
from oncetested.tries import counting_parts
from shaping import SIX, kinds_of_boards, looked_lots, tree_board
from support import (any_values, as_lists, fair_board, has_lists, lots_of, odd_board, pick, random_board, rest, seeded,
                     settings_of, sums_board, told_error)


def boards(number, count, most=30):
    rng = seeded(number)
    for at in range(count):
        if at % 3 == 2:
            many = rng.randint(2, 4)
            yield rng, fair_board(rng, many, rng.randint(1, 4 if many < 3 else 3))
        elif at % 3 == 1:
            # Marks that hang on few contents make more one-test lots.
            sizes = tuple(rng.randint(1, 3) for _ in range(rng.randint(2, 4)))
            rows = [[rng.randrange(3) for _ in range(size)] for size in sizes]
            yield rng, Board(3, sizes, [sum(row[c] for row, c in zip(rows, s)) % 3 if rng.random() < 0.95 else s[0] for s in settings_of(sizes)])
        else:
            yield rng, random_board(rng, most)


def least_above(lots, lot):
    """The least of some lots above a lot."""
    return tuple(sorted(set.intersection(*[set(other) for other in lots if set(lot) <= set(other)])))


def unlike_part(board, lot, no):
    others = rest(len(board), lot)
    unlike = [others[at] for at, content in enumerate(no[2]) if content != no[3][at]]
    return unlike[0] if len(unlike) == 1 else None


def shown(board, lot, value):
    """What lot a right triple shows, step by step."""
    noes, reading, rows = value
    for no in noes:
        if not no_holds(board, lot, no) or unlike_part(board, lot, no) is None:
            return None
        lot = tuple(sorted(lot + (unlike_part(board, lot, no),)))
    return lot if lot_reading(board, lot) == (reading, rows) else None


class TestHulls(unittest.TestCase):
    def test_by_all_one_test_lots(self):
        seen = set()
        for _, board in boards(1, 90):
            one_test = looked_lots(board)
            for one, other in itertools.combinations(one_test, 2):
                if set(one) & set(other):
                    self.assertIn(tuple(sorted(set(one) & set(other))), one_test)
            for lot in lots_of(len(board)):
                hull = least_above(one_test, lot)
                self.assertEqual(hull_of(board, lot), hull)
                self.assertEqual(hull_of(board=board, lot=list(lot)), hull)
                seen.add((len(lot), len(hull)))
            self.assertEqual(single_hulls(board=board), tuple(least_above(one_test, (part,)) for part in range(len(board))))
        self.assertTrue({(1, 1), (1, 2), (1, 3), (2, 2), (2, 3), (2, 4)} <= seen)

    def test_changes_of_a_lot_within_the_hull(self):
        for rng, board in boards(2, 30):
            for lot in lots_of(len(board)):
                hull = hull_of(board, lot)
                inner = [part for part in hull if part not in lot]
                outer = rest(len(board), hull)
                for _ in range(8):
                    u, v = [tuple(rng.randrange(board.sizes[part]) for part in lot) for _ in range(2)]
                    held = {part: rng.randrange(board.sizes[part]) for part in inner}
                    stays = set()
                    for contents in settings_of(pick(board.sizes, outer)):
                        told = held | dict(zip(outer, contents))
                        marks = [board(tuple((told | dict(zip(lot, each)))[part] for part in range(len(board)))) for each in (u, v)]
                        stays.add(marks[0] == marks[1])
                    self.assertEqual(len(stays), 1)

    def test_chains(self):
        lengths = set()
        for _, board in boards(3, 90):
            for lot in lots_of(len(board)):
                chain = hull_chain(board, lot)
                self.assertEqual(hull_chain(board=board, lot=list(lot)), chain)
                self.assertFalse(has_lists(chain))
                told = [lot]
                while counting_parts(board, told[-1]):
                    told.append(tuple(sorted(told[-1] + counting_parts(board, told[-1]))))
                self.assertEqual(chain, tuple(told))
                self.assertEqual(chain[-1], hull_of(board, lot))
                lengths.add(len(chain))
        self.assertTrue({1, 2, 3} <= lengths)

    def test_by_hand(self):
        board = Board(2, (2, 2, 2), (0, 1, 0, 1, 0, 1, 1, 0))
        self.assertEqual(hull_paper(board, (0,)), ((((0,), (1,), (0, 0), (1, 0)),), (0, 0, 0, 1), ((0, 1), (1, 0))))
        self.assertEqual(hull_chain(board, (0,)), ((0,), (0, 1)))
        self.assertEqual(single_hulls(board), ((0, 1), (0, 1), (2,)))
        self.assertEqual(hull_of(odd_board(), (0, 1)), (0, 1, 2))
        line = tree_board(6, ("line", (0, 1, 2)), {"line": SIX})
        self.assertEqual([hull_of(line, lot) for lot in lots_of(3)], [(0,), (1,), (2,), (0, 1), (0, 1, 2), (1, 2), (0, 1, 2)])


class TestPapers(unittest.TestCase):
    def test_papers(self):
        lengths = set()
        for _, board in boards(4, 90):
            for lot in lots_of(len(board)):
                paper = hull_paper(board, lot)
                self.assertEqual(hull_paper(board=board, lot=list(lot)), paper)
                self.assertFalse(has_lists(paper))
                noes, grown = [], lot
                while least_no(board, grown) is not None:
                    noes.append(least_no(board, grown))
                    grown = tuple(sorted(grown + (unlike_part(board, grown, noes[-1]),)))
                self.assertEqual(paper, (tuple(noes),) + lot_reading(board, grown))
                self.assertEqual(grown, hull_of(board, lot))
                self.assertEqual(shown_hull(board, lot, paper), grown)
                self.assertEqual(shown_hull(board=board, lot=list(lot), value=paper), grown)
                lengths.add(len(noes))
        self.assertTrue({0, 1, 2} <= lengths)

    def test_other_noes_show_it_too(self):
        for rng, board in boards(5, 60, 18):
            for lot in lots_of(len(board)):
                grown, noes = lot, []
                while least_no(board, grown) is not None:
                    told = self.all_noes(board, grown)
                    noes.append(rng.choice(told))
                    self.assertIsNone(shown_hull(board, lot, (tuple(noes), (), ())))
                    grown = tuple(sorted(grown + (unlike_part(board, grown, noes[-1]),)))
                pair = lot_reading(board, grown)
                self.assertEqual(shown_hull(board, lot, (tuple(noes),) + pair), hull_of(board, lot))
                if noes:
                    self.assertIsNone(shown_hull(board, lot, (tuple(noes[:-1]),) + pair))

    def all_noes(self, board, lot):
        """All noes that differ in one part outside."""
        inner = settings_of(pick(board.sizes, lot))
        outer = settings_of(pick(board.sizes, rest(len(board), lot)))
        noes = [(u, v, w, x) for u, v in itertools.combinations(inner, 2) for w, x in itertools.permutations(outer, 2)]
        return [no for no in noes if unlike_part(board, lot, no) is not None and no_holds(board, lot, no)]

    def test_spoilt_papers(self):
        for rng, board in boards(6, 45):
            for lot in lots_of(len(board)):
                noes, reading, rows = hull_paper(board, lot)
                changed = [(noes, reading), (noes, reading, rows, ()), [noes, reading, rows], (list(noes), reading, rows), (noes, list(reading), rows),
                           (noes, reading, list(rows)), (noes, reading, as_lists(rows)), (noes + (None,), reading, rows), (noes, reading[:-1], rows),
                           (noes, reading + (0,), rows), (noes, reading, rows[:-1]), (noes, reading, rows + rows[:1]), (noes, rows, reading),
                           (None, reading, rows), (noes, None, rows), (noes, reading, None), (noes, tuple(map(bool, reading)), rows)]
                if noes:
                    changed += [(noes[:-1], reading, rows), (noes + noes[-1:], reading, rows), (tuple(map(list, noes)), reading, rows)]
                for value in changed:
                    self.assertIsNone(shown_hull(board, lot, value))
                at = rng.randrange(len(reading))
                self.assertIsNone(shown_hull(board, lot, (noes, reading[:at] + (reading[at] + 1,) + reading[at + 1:], rows)))
                at = rng.randrange(len(rows))
                marks = ((rows[at][0] + 1) % 9,) + rows[at][1:]
                self.assertIsNone(shown_hull(board, lot, (noes, reading, rows[:at] + (marks,) + rows[at + 1:])))

    def test_noes_of_several_parts(self):
        # The mark is that both the first and the last part are at 1.
        apart = Board(2, (2, 2, 2), (0, 0, 0, 0, 0, 1, 0, 1))
        across = ((0,), (1,), (0, 0), (1, 1))
        self.assertTrue(no_holds(apart, (0,), across))
        pair = lot_reading(apart, hull_of(apart, (0,)))
        self.assertEqual(hull_of(apart, (0,)), (0, 2))
        self.assertIsNone(shown_hull(apart, (0,), ((across,),) + pair))
        self.assertIsNone(shown_hull(apart, (0,), ((across,),) + lot_reading(apart, (0, 1, 2))))
        self.assertEqual(shown_hull(apart, (0,), ((((0,), (1,), (1, 0), (1, 1)),),) + pair), (0, 2))

    def test_any_values(self):
        board = odd_board()
        for value in any_values():
            self.assertIsNone(shown_hull(board, (0, 1), value))
            self.assertIsNone(shown_hull(board, (0,), ((value,),) + lot_reading(board, (0,))))
        self.assertEqual(shown_hull(board, [0], ((),) + lot_reading(board, (0,))), (0,))

    def test_lots(self):
        for call, further in ((hull_of, ()), (hull_chain, ()), (hull_paper, ()), (shown_hull, (None,))):
            for value in any_values():
                if not isinstance(value, (list, tuple)) or len(value) == 0:
                    told_error(self, InvalidLot, -1, call, odd_board(), value, *further)
            for lot, at in (((3,), 0), ((0, 0), 1), ([2, 1], 1), ((True,), 0), ((0, 1, 2, 3), 3)):
                told_error(self, InvalidLot, at, call, odd_board(), lot, *further)


class TestMeets(unittest.TestCase):
    def test_meets(self):
        rng = seeded(7)
        for _ in range(200):
            parts = rng.randint(1, 8)
            lots = [rng.choice(lots_of(parts)) for _ in range(rng.randint(0, 12))]
            lot = rng.choice(lots + lots_of(parts))
            above = [set(other) for other in lots if set(lot) <= set(other)]
            told = tuple(sorted(set.intersection(set(range(parts)), *above)))
            self.assertEqual(meet_above(parts, lots, lot), told)
            self.assertEqual(meet_above(parts=parts, lots=tuple(list(other) for other in lots), lot=list(lot)), told)
        self.assertEqual(meet_above(4, (), (1,)), (0, 1, 2, 3))
        self.assertEqual(meet_above(4, ((0, 1), (1, 2)), (1,)), (1,))
        self.assertEqual(meet_above(4, ((0, 1), (1, 2), (1, 3)), (1, 3)), (1, 3))
        self.assertEqual(meet_above(4, ((0, 1), (1, 2)), (3,)), (0, 1, 2, 3))

    def test_key_lots(self):
        counts = set()
        for _, board in list(boards(8, 60)) + [(None, board) for board, _ in kinds_of_boards(seeded(9)) if len(board.marks) < 100]:
            one_test = sorted(looked_lots(board), key=lambda lot: (len(lot), lot))
            whole = tuple(range(len(board)))
            keys = []
            for lot in one_test:
                greater = [set(other) for other in one_test if set(lot) < set(other)]
                if lot != whole and tuple(sorted(set.intersection(*greater))) != lot:
                    keys.append(lot)
            self.assertEqual(key_lots(board=board), tuple(keys))
            for lot in lots_of(len(board)):
                self.assertIs(meet_above(len(board), keys, lot) == lot, lot in one_test)
            for at in range(len(keys)):
                fewer = keys[:at] + keys[at + 1:]
                self.assertNotEqual(meet_above(len(board), fewer, keys[at]), keys[at])
            counts.add(len(keys))
        self.assertGreater(len(counts), 3)
        self.assertEqual(key_lots(sums_board()), ((0, 1), (0, 2), (1, 2)))
        self.assertEqual(key_lots(Board(2, (3,), (0, 1, 1))), ())


class TestLimits(unittest.TestCase):
    def test_five_parts_and_64_settings(self):
        started = time.time()
        rng = seeded(10)
        for sizes in ((2, 2, 2, 2, 4), (2,) * 5, (4, 4, 4), (8, 8), (2, 2, 4, 4), (64,), (1, 1, 2, 2, 16)):
            for many in (2, 3, 8):
                board = Board(many, sizes, [rng.randrange(many) for _ in settings_of(sizes)])
                for lot in lots_of(len(sizes)):
                    hull = hull_of(board, lot)
                    self.assertEqual(hull_chain(board, lot)[-1], hull)
                    self.assertEqual(shown_hull(board, lot, hull_paper(board, lot)), hull)
                self.assertEqual(len(single_hulls(board)), len(sizes))
                for lot in key_lots(board):
                    self.assertEqual(hull_of(board, lot), lot)
        self.assertLess(time.time() - started, 30)


if __name__ == "__main__":
    unittest.main()
