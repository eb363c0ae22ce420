"""[56], [57]: kinds, parts that count, tries, and what they leave unnoticed."""

import itertools
import time
import unittest

from oncetested.boards import Board
from oncetested.errors import InvalidLot, InvalidSetting, InvalidSize, InvalidTests
from oncetested.looks import stubborn_board
from oncetested.tries import (all_tries, content_kinds, counting_holds, counting_paper, counting_parts, noticed_tries,
                              unnoticed_change)
from shaping import SIX, kinds_of_boards, looked_lots, rows_within, tree_board
from support import (any_values, as_lists, cycle_rows, fair_board, has_lists, lots_of, odd_board, pick, random_board, rest,
                     seeded, settings_of, sums_board, told_error)


def boards(number, count):
    rng = seeded(number)
    for at in range(count):
        if at % 3 == 2:
            many = rng.randint(2, 4)
            yield rng, fair_board(rng, many, rng.randint(1, 4 if many < 3 else 3))
        else:
            yield rng, random_board(rng)


def noes(board, lot):
    """All noes of a lot whose w and x differ in one part alone, by that part, with how many parts they change."""
    others = rest(len(board), lot)
    inner, outer = settings_of(pick(board.sizes, lot)), settings_of(pick(board.sizes, others))
    rows = rows_within(board, lot)
    found = {}
    for (u, one), (v, other) in itertools.combinations(list(zip(inner, rows)), 2):
        for (i, w), (j, x) in itertools.permutations(list(enumerate(outer)), 2):
            unlike = [at for at, content in enumerate(w) if content != x[at]]
            if len(unlike) == 1 and one[i] == other[i] and one[j] != other[j]:
                found.setdefault(others[unlike[0]], []).append((sum(a != b for a, b in zip(u, v)), (u, v, w, x)))
    return found


def tried(board, lot, parts):
    """For each content of a lot a dict of the marks at each try, and whether the other parts never tell more."""
    others = rest(len(board), lot)
    outer = settings_of(pick(board.sizes, others))
    rows = []
    for row in rows_within(board, lot):
        marks = {}
        for w, mark in zip(outer, row):
            marks.setdefault(tuple(w[others.index(part)] for part in parts), []).append(mark)
        rows.append(marks)
    return rows


class TestKinds(unittest.TestCase):
    def test_kinds(self):
        for _, board in boards(1, 60):
            for lot in lots_of(len(board)):
                rows = rows_within(board, lot)
                firsts = []
                for row in rows:
                    if row not in firsts:
                        firsts.append(row)
                told = tuple(firsts.index(row) for row in rows)
                self.assertEqual(content_kinds(board, lot), told)
                self.assertEqual(content_kinds(board=board, lot=list(lot)), told)
        self.assertEqual(content_kinds(odd_board(), (0,)), (0, 1, 2, 3))
        self.assertEqual(content_kinds(sums_board(), (0, 2)), (0, 1, 2, 3, 1, 2, 3, 0, 2, 3, 0, 1, 3, 0, 1, 2))

    def test_parts_that_count(self):
        sizes = set()
        for _, board in boards(2, 60):
            one_test = looked_lots(board)
            for lot in lots_of(len(board)):
                found = noes(board, lot)
                told = counting_parts(board, lot)
                self.assertEqual(told, tuple(sorted(found)))
                self.assertEqual(counting_parts(board=board, lot=list(lot)), told)
                for part in rest(len(board), lot):
                    paper = min(found[part])[1] if part in found else None
                    self.assertEqual(counting_paper(board, lot, part), paper)
                    self.assertEqual(counting_paper(board=board, lot=list(lot), part=part), paper)
                    self.assertFalse(has_lists(paper))
                self.assertTrue(all(set(told) <= set(other) for other in one_test if set(lot) <= set(other)))
                sizes.add(len(told))
        self.assertTrue({0, 1, 2} <= sizes)

    def test_papers_that_hold(self):
        for rng, board in boards(3, 40):
            for lot in lots_of(len(board)):
                found = noes(board, lot)
                for part in rest(len(board), lot):
                    told = {no for _, no in found.get(part, [])}
                    for no in rng.sample(sorted(told), min(len(told), 3)):
                        self.check_paper(rng, board, lot, part, no, told)

    def check_paper(self, rng, board, lot, part, no, told):
        self.assertIs(counting_holds(board, lot, part, no), True)
        self.assertIs(counting_holds(board=board, lot=list(lot), part=part, value=no), True)
        u, v, w, x = no
        for value in ((v, u, w, x), (u, v, x, w), (u, u, w, x), (u, v, w, w), (u, v, w), no + (w,), list(no), as_lists(no), (u, v, w, list(x)),
                      (u, v, w, x + (0,)), (u, v, w[:-1], x[:-1]), None):
            self.assertIs(counting_holds(board, lot, part, value), value in list(told))
        for other in rest(len(board), lot):
            self.assertIs(counting_holds(board, lot, other, no), other == part)
        changed = tuple(rng.randrange(board.sizes[place]) for place in lot)
        self.assertIs(counting_holds(board, lot, part, (changed, v, w, x)), (changed, v, w, x) in told)
        if 1 in w:
            self.assertIs(counting_holds(board, lot, part, (u, v, tuple(True if c == 1 else c for c in w), x)), False)

    def test_no_part_outside(self):
        board = odd_board()
        for call, further in ((counting_paper, ()), (counting_holds, (None,))):
            for value in any_values() + [0, 1, 3]:
                if not (type(value) is int and value == 2):
                    told_error(self, InvalidLot, value, call, board, (0, 1), value, *further)
        for value in any_values():
            self.assertIs(counting_holds(board, (0, 1), 2, value), False)

    def test_fair_boards(self):
        for board, _ in kinds_of_boards(seeded(4)):
            if len(board.marks) > 300:
                continue
            one_test = looked_lots(board)
            counting = {lot: counting_parts(board, lot) for lot in lots_of(len(board))}
            for lot, parts in counting.items():
                self.assertIs(not parts, lot in one_test)
                for part in rest(len(board), lot):
                    pairs = any(part in counting[pair] for pair in itertools.combinations(lot, 2))
                    self.assertIs(part in parts, pairs)
                    paper = counting_paper(board, lot, part)
                    if paper is not None:
                        self.assertEqual(sum(a != b for a, b in zip(paper[0], paper[1])), 2)

    def test_papers_that_change_all(self):
        board = stubborn_board(4)
        paper = counting_paper(board, (0, 1, 2, 3), 4)
        self.assertEqual(paper, ((0, 0, 0, 0), (1, 1, 1, 1), (0,), (1,)))


class TestTries(unittest.TestCase):
    def test_tries(self):
        for rng, board in boards(5, 40):
            for lot in lots_of(len(board)):
                parts = counting_parts(board, lot)
                tries = tuple(settings_of(pick(board.sizes, parts)))
                self.assertEqual(all_tries(board, lot), tries)
                self.assertEqual(all_tries(board=board, lot=list(lot)), tries)
                self.check_noticed(rng, board, lot, parts, tries)

    def check_noticed(self, rng, board, lot, parts, tries):
        rows = tried(board, lot, parts)
        contents = settings_of(pick(board.sizes, lot))
        for _ in range(6):
            i, j = rng.randrange(len(contents)), rng.randrange(len(contents))
            noticed = []
            for t in tries:
                stays = {a == b for a, b in zip(rows[i][t], rows[j][t])}
                # Whatever the other parts are, it is the same.
                self.assertEqual(len(stays), 1)
                if stays == {False}:
                    noticed.append(t)
            self.assertEqual(noticed_tries(board, lot, contents[i], contents[j]), tuple(noticed))
            self.assertEqual(noticed_tries(board=board, lot=list(lot), one=list(contents[i]), other=list(contents[j])), tuple(noticed))

    def test_unnoticed_changes(self):
        kinds = set()
        for rng, board in boards(6, 40):
            for lot in lots_of(len(board)):
                parts = counting_parts(board, lot)
                tries = settings_of(pick(board.sizes, parts))
                marks = [[row[t][0] for t in tries] for row in tried(board, lot, parts)]
                contents = settings_of(pick(board.sizes, lot))
                for chosen in ([], tries, tries[:1], rng.sample(tries, rng.randint(0, len(tries))), tries[::-1] + tries[:1]):
                    told = self.sought(contents, marks, tries, chosen)
                    self.assertEqual(unnoticed_change(board, lot, chosen), told)
                    self.assertEqual(unnoticed_change(board=board, lot=list(lot), tries=tuple(list(t) for t in chosen)), told)
                    kinds.add(told is None)
                self.assertIsNone(unnoticed_change(board, lot, tries))
        self.assertEqual(len(kinds), 2)

    def sought(self, contents, marks, tries, chosen):
        """The least change that stays at the chosen tries and not at all, and the least try that notices it."""
        for i, j in itertools.combinations(range(len(contents)), 2):
            unlike = [t for at, t in enumerate(tries) if marks[i][at] != marks[j][at]]
            if unlike and not any(t in chosen for t in unlike):
                return contents[i], contents[j], unlike[0]
        return None

    def test_lots_of_all_parts_and_one_test_lots(self):
        for board in (odd_board(), sums_board()):
            whole = (0, 1, 2)
            self.assertEqual((counting_parts(board, whole), all_tries(board, whole)), ((), ((),)))
            self.assertEqual(noticed_tries(board, whole, (0, 0, 0), (0, 0, 1)), ((),))
            self.assertEqual(noticed_tries(board, whole, (0, 0, 1), (0, 1, 0)), ())
            self.assertIsNone(unnoticed_change(board, whole, [()]))
            self.assertIsNone(unnoticed_change(board, whole, [(), []]))
            self.assertEqual(unnoticed_change(board, whole, ()), ((0, 0, 0), (0, 0, 1), ()))
        self.assertEqual(all_tries(sums_board(), (0, 1)), ((),))
        self.assertEqual(all_tries(odd_board(), (0, 1)), ((0,), (1,), (2,), (3,)))
        self.assertEqual(unnoticed_change(odd_board(), (0, 1), ((2,),)), ((0, 0), (2, 2), (0,)))
        self.assertEqual(unnoticed_change(odd_board(), (0, 1), ((0,), (2,))), None)

    def test_one_kind(self):
        board = Board(2, (3, 2), (0, 1, 0, 1, 0, 1))
        self.assertEqual((content_kinds(board, (0,)), all_tries(board, (0,))), ((0, 0, 0), ((),)))
        self.assertIsNone(unnoticed_change(board, (0,), ()))

    def test_more_than_64_tries(self):
        rng = seeded(7)
        wide = Board(2, (3, 65), [rng.randrange(2) for _ in range(195)])
        self.assertEqual(counting_parts(wide, (0,)), (1,))
        for call, further in ((all_tries, ()), (noticed_tries, (None, None)), (unnoticed_change, (None,))):
            told_error(self, InvalidSize, "tries", call, wide, (0,), *further)
            told_error(self, InvalidLot, -1, call, wide, (), *further)
        self.assertEqual(len(all_tries(Board(2, (3, 64), wide.marks[:192]), (0,))), 64)
        # Tries are contents of the parts that count alone.
        idle = Board(2, (2, 4, 65), [(x * y + z) % 2 for x, y, z in settings_of((2, 4, 65))])
        self.assertEqual(len(all_tries(idle, (0,))), 4)


class TestErrors(unittest.TestCase):
    def test_lots_go_ahead(self):
        for call, further in ((content_kinds, ()), (counting_parts, ()), (counting_paper, (None,)), (counting_holds, (None, None)),
                              (all_tries, ()), (noticed_tries, (None, None)), (unnoticed_change, (None,))):
            for value in any_values():
                if not isinstance(value, (list, tuple)) or len(value) == 0:
                    told_error(self, InvalidLot, -1, call, odd_board(), value, *further)
            for lot, at in (((3,), 0), ((0, 0), 1), ([2, 1], 1), ((True,), 0), ((0, 1, 2, 3), 3), ((None,), 0), ((0, "1"), 1)):
                told_error(self, InvalidLot, at, call, odd_board(), lot, *further)

    def test_contents(self):
        for value in any_values() + [(0, 4), (0,), [0, True], (0, 0, 0)]:
            if value not in ((0, 1), [0, 1], (1, 0), (0, 0)):
                told_error(self, InvalidSetting, "one", noticed_tries, odd_board(), (0, 1), value, value)
                told_error(self, InvalidSetting, "other", noticed_tries, odd_board(), (0, 1), [3, 3], value)

    def test_tries_of_any_values(self):
        for value in any_values():
            if not isinstance(value, (list, tuple)):
                told_error(self, InvalidTests, -1, unnoticed_change, odd_board(), (0, 1), value)
        for value in any_values() + [(4,), (-1,), (0, 0), "0"]:
            if value not in ((0,), [0], (1,)) or value and type(value[0]) is bool:
                told_error(self, InvalidTests, 0, unnoticed_change, odd_board(), (0, 1), (value, None))
                told_error(self, InvalidTests, 2, unnoticed_change, odd_board(), (0, 1), [(0,), [3], value])
        self.assertIsNone(unnoticed_change(odd_board(), (0, 1), [[0], (1,), [2], (3,), [0]]))


class TestLimits(unittest.TestCase):
    def test_625_settings(self):
        started = time.time()
        rng = seeded(8)
        for sizes, lots in (((5,) * 4, lots_of(4)), ((256, 2), [(0,)]), ((25, 25), [(0,), (1,)]), ((2,) * 8 + (), lots_of(8)[:60]),
                            ((9, 64), [(0,)]), ((4, 4, 4, 4, 2), lots_of(5))):
            board = Board(5, sizes, [rng.randrange(5) for _ in settings_of(sizes)])
            for lot in lots:
                if len(settings_of(pick(sizes, lot))) > 256:
                    continue
                self.assertEqual(max(content_kinds(board, lot)) + 1, len(set(rows_within(board, lot))))
                for part in counting_parts(board, lot)[:2]:
                    self.assertIs(counting_holds(board, lot, part, counting_paper(board, lot, part)), True)
                if len(settings_of(pick(sizes, counting_parts(board, lot)))) <= 64:
                    tries = all_tries(board, lot)
                    self.assertIsNone(unnoticed_change(board, lot, tries))
                    unnoticed_change(board, lot, tries[:1])
                else:
                    told_error(self, InvalidSize, "tries", all_tries, board, lot)
        line = tree_board(5, ("free", (0, 1, 2, 3)), {"free": cycle_rows(5)})
        self.assertEqual([counting_parts(line, lot) for lot in lots_of(4)], [()] * 15)
        self.assertEqual(counting_parts(tree_board(6, ("line", (0, 1, 2)), {"line": SIX}), (0, 2)), (1,))
        self.assertLess(time.time() - started, 30)


if __name__ == "__main__":
    unittest.main()
