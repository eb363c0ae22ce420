"""[15], [16], [17]: readings, papers of both kinds, lots within lots."""

import itertools
import unittest

from oncetested.boards import Board
from oncetested.errors import InvalidLot, Refused
from oncetested.looks import no_holds, stubborn_board
from oncetested.readings import (knit_board, least_no, lot_holds, lot_paper, lot_reading, one_test, read_board,
                                 reading_holds, tested_lots)
from support import (any_values, as_lists, fair_board, has_lists, is_one_test, lots_of, odd_board, pick, random_board, rest,
                     seeded, settings_of, sums_board, told_error)


def marks_of(board, lot):
    """For each content of a lot the marks with all contents of the rest."""
    others = rest(len(board), lot)
    rows = []
    for u in settings_of(pick(board.sizes, lot)):
        row = []
        for w in settings_of(pick(board.sizes, others)):
            told = dict(zip(lot, u)) | dict(zip(others, w))
            row.append(board(tuple(told[part] for part in range(len(board)))))
        rows.append(tuple(row))
    return rows


def sought_reading(board, lot):
    """The pair of reading and rows, by all looks."""
    if not is_one_test(board, lot):
        return None
    rows, reading = [], []
    for row in marks_of(board, lot):
        if row not in rows:
            rows.append(row)
        reading.append(rows.index(row))
    return tuple(reading), tuple(rows)


def sought_no(board, lot):
    """The no that changes the fewest parts, the least of those with one other part."""
    inner = settings_of(pick(board.sizes, lot))
    outer = settings_of(pick(board.sizes, rest(len(board), lot)))
    found = []
    for (u, one), (v, other) in itertools.combinations(list(zip(inner, marks_of(board, lot))), 2):
        for i, w in enumerate(outer):
            for j, x in enumerate(outer):
                if one[i] == other[i] and one[j] != other[j]:
                    found.append((sum(a != b for a, b in zip(u, v)), sum(a != b for a, b in zip(w, x)) != 1, u, v, w, x))
    return min(found)[2:] if found else None


def boards(number, count):
    rng = seeded(number)
    for at in range(count):
        if at % 3 == 0:
            yield fair_board(rng, rng.randint(2, 4), rng.randint(1, 3))
        elif at % 3 == 1:
            yield random_board(rng, 24)
        else:
            # Two lots that are read ahead of the mark, so some lots are one-test in a board that is not fair.
            one, other = [rng.randrange(3) for _ in range(6)], [rng.randrange(2) for _ in range(4)]
            square = [[rng.randrange(3) for _ in range(2)] for _ in range(3)]
            if rng.random() < 0.5:
                square = [[0, 1], [1, 2], [2, 0]]
            yield Board(3, (2, 3, 2, 2), [square[one[a * 3 + b]][other[c * 2 + d]] for a, b, c, d in settings_of((2, 3, 2, 2))])


class TestReadings(unittest.TestCase):
    def test_by_all_looks(self):
        seen = {}
        for board in boards(1, 60):
            told = []
            for lot in lots_of(len(board)):
                pair = sought_reading(board, lot)
                seen[pair is None, len(lot) == len(board)] = True
                self.assertIs(one_test(board, lot), pair is not None)
                self.assertIs(one_test(board=board, lot=list(lot)), pair is not None)
                self.assertEqual(lot_reading(board, lot), pair)
                self.assertEqual(lot_reading(board=board, lot=list(lot)), pair)
                self.assertFalse(has_lists(lot_reading(board, list(lot))))
                told += [lot] if pair else []
                if pair:
                    self.assertLessEqual(len(pair[1]), board.many)
            self.assertEqual(tested_lots(board=board), tuple(told))
        self.assertEqual(len(seen), 3)

    def test_any_value_that_is_the_pair(self):
        for board in boards(2, 15):
            for lot in lots_of(len(board)):
                pair = sought_reading(board, lot)
                if pair is None:
                    self.assertIs(reading_holds(board, lot, ((0,), ((0,),))), False)
                    continue
                self.assertIs(reading_holds(board, lot, pair), True)
                self.assertIs(reading_holds(board=board, lot=list(lot), value=pair), True)
                reading, rows = pair
                for value in (as_lists(pair), (list(reading), rows), (reading, list(rows)), (reading, tuple(list(row) for row in rows)),
                              (reading,), (reading, rows, ()), (reading[:-1], rows), (reading + (0,), rows), (reading, rows + rows[:1]),
                              ((bool(reading[0]),) + reading[1:], rows), (rows, reading), (reading, rows[:-1]), [reading, rows],
                              (reading, ((-1,) + rows[0][1:],) + rows[1:]), (tuple(number + 1 for number in reading), rows)):
                    self.assertIs(reading_holds(board, lot, value), False)
        for value in any_values():
            self.assertIs(reading_holds(sums_board(), (0, 1), value), False)
            self.assertIs(reading_holds(odd_board(), (0, 1), value), False)

    def test_a_full_part_gives_as_many_numbers_as_marks(self):
        for board in boards(3, 60):
            if board.sizes == (board.many,) * len(board):
                for lot in tested_lots(board):
                    if all(len(set(row)) == board.many for row in zip(*marks_of(board, lot[:1]))):
                        self.assertEqual(len(lot_reading(board, lot)[1]), board.many)


class TestPapers(unittest.TestCase):
    def test_example(self):
        self.assertIs(one_test(sums_board(), (0, 1)), True)
        self.assertIs(one_test(odd_board(), (0, 1)), False)
        self.assertEqual(least_no(odd_board(), (0, 1)), ((0, 0), (2, 2), (2,), (0,)))

    def test_least_no(self):
        count = 0
        for board in boards(4, 45):
            for lot in lots_of(len(board)):
                no = sought_no(board, lot)
                self.assertEqual(least_no(board, lot), no)
                self.assertEqual(least_no(board=board, lot=list(lot)), no)
                self.assertEqual(no is None, is_one_test(board, lot))
                if no:
                    count += 1
                    self.assertEqual(sum(a != b for a, b in zip(no[2], no[3])), 1)
                    self.assertIs(no_holds(board, lot, no), True)
                self.check_papers(board, lot, no)
        self.assertGreater(count, 100)

    def check_papers(self, board, lot, no):
        pair = sought_reading(board, lot)
        paper = ("no",) + no if no else ("yes",) + pair
        self.assertEqual(lot_paper(board, lot), paper)
        self.assertEqual(lot_paper(board=board, lot=list(lot)), paper)
        self.assertIs(lot_holds(board, lot, paper), True)
        self.assertIs(lot_holds(board=board, lot=list(lot), value=paper), True)
        other = {"yes": "no", "no": "yes"}[paper[0]]
        for value in (list(paper), paper[1:], paper[:-1], paper + (0,), (other,) + paper[1:], as_lists(paper), (None,) + paper[1:],
                      (paper[0].upper(),) + paper[1:], paper[:1] + (list(paper[1]),) + paper[2:]):
            self.assertIs(lot_holds(board, lot, value), False)
        if no:
            u, v, w, x = no
            for value in ((u, v, x, w), (v, u, w, x), (u, u, w, x), (u, v, w, w)):
                self.assertIs(lot_holds(board, lot, ("no",) + value), no_holds(board, lot, value))

    def test_never_both_kinds(self):
        for board in boards(5, 20):
            for lot in lots_of(len(board)):
                paper = lot_paper(board, lot)
                for other in lots_of(len(board)):
                    if lot_holds(board, other, paper):
                        self.assertEqual(lot_paper(board, other)[0], paper[0])

    def test_any_values(self):
        for board in (sums_board(), odd_board(), Board(2, (2, 2), (0, 1, 1, 1))):
            for value in any_values():
                told = value in (("no", (0,), (1,), (0,), (1,)),) and no_holds(board, (0,), value[1:])
                self.assertIs(lot_holds(board, (0,), value), told)

    def test_the_lot_goes_ahead(self):
        for lot, at in ((None, -1), ((), -1), ((3,), 0), ((0, 0), 1), ([1, 0], 1), ("0", -1), ((False,), 0)):
            for call in (lot_reading, one_test, least_no, lot_paper, read_board, knit_board):
                told_error(self, InvalidLot, at, call, odd_board(), lot)
            for call in (reading_holds, lot_holds):
                told_error(self, InvalidLot, at, call, odd_board(), lot, None)

    def test_limits(self):
        rng = seeded(6)
        sizes = (4,) + (2,) * 7
        board = Board(8, sizes, [sum(setting) % 8 for setting in settings_of(sizes)])
        self.assertEqual(len(tested_lots(board)), 255)
        board = Board(5, sizes, [rng.randrange(5) for _ in range(512)])
        self.assertEqual(tested_lots(board), (tuple(range(8)),))
        for lot in ((0,), (0, 1, 2, 3), tuple(range(7)), tuple(range(1, 8))):
            self.assertIs(lot_holds(board, lot, lot_paper(board, lot)), True)
        lot = tuple(range(7))
        self.assertEqual(least_no(stubborn_board(7), lot), ((0,) * 7, (1,) * 7, (0,), (1,)))
        eight = Board(8, (8, 8, 8), [(x * 3 + y + z) % 8 for x, y, z in settings_of((8, 8, 8))])
        self.assertEqual(tested_lots(eight), tuple(lots_of(3)))


class TestLotsWithinLots(unittest.TestCase):
    def test_read_and_knit(self):
        refused = 0
        for board in boards(7, 45):
            tested = tested_lots(board)
            for lot in lots_of(len(board)):
                pair = sought_reading(board, lot)
                if pair is None:
                    refused += 1
                    told_error(self, Refused, -1, read_board, board, lot)
                    told_error(self, Refused, -1, knit_board, board, lot)
                    continue
                read = read_board(board, lot)
                self.assertEqual(read, Board(board.many, pick(board.sizes, lot), pair[0]))
                self.assertEqual(read_board(board=board, lot=list(lot)), read)
                self.check_knit(board, lot, pair)
                self.check_tested(board, lot, tested)
        self.assertGreater(refused, 10)

    def check_knit(self, board, lot, pair):
        knit = knit_board(board, lot)
        self.assertEqual(knit_board(board=board, lot=list(lot)), knit)
        kept = [part for part in range(len(board)) if part == lot[0] or part not in lot]
        sizes = [len(pair[1]) if part == lot[0] else board.sizes[part] for part in kept]
        self.assertEqual((knit.many, knit.sizes), (board.many, tuple(sizes)))
        inner = settings_of(pick(board.sizes, lot))
        for setting in settings_of(board.sizes):
            number = pair[0][inner.index(pick(setting, lot))]
            contents = tuple(number if part == lot[0] else setting[part] for part in kept)
            self.assertEqual(knit(contents), board(setting))

    def check_tested(self, board, lot, tested):
        """A lot within, around or apart from the lot is one-test just where it is so in the read or knit board."""
        read, knit = read_board(board, lot), knit_board(board, lot)
        kept = [part for part in range(len(board)) if part == lot[0] or part not in lot]
        for other in lots_of(len(board)):
            if set(other) <= set(lot):
                self.assertIs(one_test(read, tuple(lot.index(part) for part in other)), other in tested)
            if set(lot) <= set(other) or not set(lot) & set(other):
                places = tuple(kept.index(part) for part in other if part in kept)
                self.assertIs(one_test(knit, places), other in tested)


if __name__ == "__main__":
    unittest.main()
