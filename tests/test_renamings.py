"""[47]: renamings of forms, by trying all rows, and by boards alike."""

import itertools
import math
import time
import unittest

from oncetested.boards import Board
from oncetested.errors import Refused
from oncetested.forms import Form, board_form, form_board
from oncetested.moves import led_form, marked_form, tidy_form
from oncetested.renamings import how_many_alike, how_many_renamings, is_renaming, some_renaming
from shaping import BITS, FOUR, SIX, kinds_of_boards
from support import any_values, as_lists, fair_board, has_lists, latin, seeded, settings_of, told_error
from test_moves import any_tree


def leads(one, other, rows):
    """The row of marks by which rows lead one form to the other one, or None."""
    led = {}
    for setting in settings_of(one.sizes):
        mark = other(tuple(row[content] for row, content in zip(rows, setting)))
        if led.setdefault(one(setting), mark) != mark:
            return None
    return tuple(led[mark] for mark in range(one.many))


def all_renamings(one, other):
    found = []
    for rows in itertools.product(itertools.permutations(range(one.many)), repeat=len(one)):
        row = leads(one, other, rows)
        if row is not None:
            found.append((rows, row))
    return found


def renamed(rng, form):
    """A form with other names of all contents and marks."""
    for part in range(len(form)):
        form = led_form(form, part, rng.sample(range(form.many), form.many))
    return marked_form(form, rng.sample(range(form.many), form.many))


def small_pairs(number, count=30):
    rng = seeded(number)
    for at in range(count):
        many = rng.choice((2, 3, 3, 4))
        parts = rng.randint(1, {2: 4, 3: 3, 4: 2}[many])
        one = tidy_form(many, *any_tree(rng, many, parts, 3))
        yield rng, one, renamed(rng, one) if at % 3 else tidy_form(many, *any_tree(rng, many, parts, 3))
        square, beside = rng.choice((BITS, FOUR)), rng.choice((BITS, FOUR))
        names = [[0, 1, 2, 3]] * 2
        yield rng, tidy_form(4, names, [((0, 1), sum(square, ()))]), renamed(rng, tidy_form(4, names, [((1, 0), sum(beside, ()))]))


class TestRenamings(unittest.TestCase):
    def test_by_trying_all_rows(self):
        counts = set()
        for rng, one, other in small_pairs(1):
            found = all_renamings(one, other)
            self.assertEqual(how_many_renamings(one=one, other=other), len(found))
            told = some_renaming(one=one, other=other)
            if found:
                self.assertIn(told, found)
                self.assertFalse(has_lists(told))
                self.assertEqual([knot[:2] for knot in one.knots], [knot[:2] for knot in other.knots])
            else:
                self.assertIsNone(told)
            for each in rng.sample(found, min(4, len(found))):
                self.assertIs(is_renaming(one=one, other=other, value=each), True)
                self.check_spoilt(one, other, each, found)
            counts.add(len(found))
        self.assertIn(0, counts)
        self.assertGreater(len(counts), 5)

    def check_spoilt(self, one, other, value, found):
        rows, row = value
        spoilt = [as_lists(value), (list(rows), row), (rows, list(row)), (rows[:-1] + (list(rows[-1]),), row), (rows,), (rows, row, ()), (rows[1:], row),
                  (rows + rows[:1], row), (rows, row[:-1]), (rows, row[:-1] + row[:1]), (rows[:-1] + (rows[-1][:-1],), row), (row, rows),
                  (rows, tuple(bool(mark) if mark < 2 else mark for mark in row)), (rows[:-1] + (None,), row), list(value)]
        for each in spoilt:
            self.assertIs(is_renaming(one, other, each), False, each)
        turned = rows[0][1:] + rows[0][:1]
        for each in (((turned,) + rows[1:], row), (rows, row[::-1])):
            self.assertIs(is_renaming(one, other, each), each in found)

    def test_unlike_knots(self):
        names = [[0, 1, 2, 3]] * 3
        one = tidy_form(4, names, [((0, 1), sum(FOUR, ())), ((3, 2), sum(BITS, ()))])
        for rows in ([((0, 2), sum(FOUR, ())), ((3, 1), sum(BITS, ()))], [((0, 1), sum(BITS, ())), ((3, 2), sum(BITS, ()))],
                     [((0, 1), sum(BITS, ())), ((3, 2), sum(FOUR, ()))]):
            other = tidy_form(4, names, rows)
            for pair in ((one, other), (other, one)):
                self.assertEqual(how_many_renamings(*pair), 0)
                self.assertIsNone(some_renaming(*pair))
                self.assertIs(is_renaming(*pair, ((tuple(range(4)),) * 3, tuple(range(4)))), False)

    def test_lines_and_free_knots(self):
        rng = seeded(2)
        for rows, many_matches in ((SIX, 6), (FOUR, 2), (BITS, 6)):
            many = len(rows)
            kind = "free" if rows == tuple(zip(*rows)) else "line"
            for parts in (3, 4):
                form = Form(many, [tuple(range(many))] * parts, [(kind, tuple(range(parts)), rows)])
                # The contents to which zeros are led, and a match of the group with itself.
                self.assertEqual(how_many_renamings(form, form), many ** parts * many_matches)
                other = renamed(rng, form)
                self.assertEqual(how_many_renamings(form, other), many ** parts * many_matches)
                self.assertIs(is_renaming(form, other, some_renaming(form, other)), True)

    def test_boards_alike(self):
        rng = seeded(3)
        for many, parts in ((2, 1), (2, 3), (3, 1), (3, 2), (4, 1)):
            form = board_form(fair_board(rng, many, parts))
            alike = set()
            permutations = list(itertools.permutations(range(many)))
            for rows in itertools.product(permutations, repeat=parts):
                for row in permutations:
                    alike.add(tuple(row[form(tuple(r[c] for r, c in zip(rows, s)))] for s in settings_of(form.sizes)))
            self.assertEqual(how_many_alike(form=form), len(alike))
        for _, one, _ in small_pairs(4, 20):
            self.assertEqual(how_many_alike(one) * how_many_renamings(one, one), math.factorial(one.many) ** (len(one) + 1))

    def test_all_squares_of_four_and_five(self):
        # Squares are Latin: 576 of four marks, 161,280 of five, each counted in one class alone.
        rng = seeded(5)
        for many, classes, whole in ((4, 2, 576), (5, 2, 161280)):
            found = []
            while len(found) < classes:
                square = latin(rng, many)
                form = board_form(Board(many, (many, many), [mark for row in square for mark in row]))
                if not any(how_many_renamings(form, other) for other in found):
                    found.append(form)
            self.assertEqual(sum(how_many_alike(form) for form in found), whole)

    def test_example(self):
        form = board_form(Board(4, (4, 4), (3, 2, 1, 0, 2, 3, 0, 1, 1, 0, 3, 2, 0, 1, 2, 3)))
        self.assertEqual((form.names, form.base), (((3, 2, 1, 0), (3, 2, 1, 0)), 3))
        self.assertEqual(form.knots, (("bare", (0, 1), (3, 2, 1, 0, 2, 3, 0, 1, 1, 0, 3, 2, 0, 1, 2, 3)),))
        self.assertEqual((form((1, 2)), how_many_alike(form)), (0, 144))

    def test_unlike_sizes(self):
        two, three = board_form(fair_board(seeded(6), 3, 2)), board_form(fair_board(seeded(6), 3, 3))
        four = board_form(fair_board(seeded(6), 4, 2))
        for one, other in ((two, three), (three, two), (two, four), (four, three)):
            told_error(self, Refused, -1, how_many_renamings, one, other)
            told_error(self, Refused, -1, some_renaming, one, other)
            told_error(self, Refused, -1, is_renaming, one, other, None)

    def test_any_values(self):
        form = board_form(fair_board(seeded(7), 3, 2))
        for value in any_values() + [(value, value) for value in any_values()]:
            self.assertIs(is_renaming(form, form, value), False)
        idle = ((0, 1, 2), (0, 1, 2))
        self.assertIs(is_renaming(form, form, (idle, (0, 1, 2))), True)
        for value in any_values():
            if value != (0, 1, 2):
                self.assertIs(is_renaming(form, form, ((value, idle[1]), (0, 1, 2))), False)
                self.assertIs(is_renaming(form, form, (idle, value)), False)


class TestLimits(unittest.TestCase):
    def test_six_marks_and_six_parts(self):
        started = time.time()
        rng = seeded(8)
        for many, most in ((6, 2), (5, 2), (4, 3), (3, 3), (2, 3), (6, 2)):
            for _ in range(3):
                form = tidy_form(many, *any_tree(rng, many, 6, most))
                other = renamed(rng, form)
                self.assertEqual(how_many_renamings(form, other), how_many_renamings(form, form))
                self.assertIs(is_renaming(form, other, some_renaming(form, other)), True)
                self.assertGreater(how_many_alike(form), 0)
        self.assertLess(time.time() - started, 60)

    def test_kinds_of_boards(self):
        rng = seeded(9)
        for board, _ in kinds_of_boards(rng):
            if board.many <= 6:
                form = board_form(board)
                other = renamed(rng, form)
                rows, row = some_renaming(form, other)
                if len(board.marks) < 300:
                    self.assertEqual(leads(form, other, rows), row)
                    self.assertEqual(form_board(other).many, board.many)


if __name__ == "__main__":
    unittest.main()
