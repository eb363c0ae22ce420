"""[37], [38]: squares, their groups, open squares, and matches of squares."""

import itertools
import unittest

from oncetested.errors import InvalidRow, InvalidSize, InvalidTable
from oncetested.groups import Group, group_match, group_matches
from oncetested.squares import (is_square, led_square, named_square, open_holds, open_square, square_group, square_match)
from support import (all_group_rows, any_values, as_lists, cycle_rows, has_lists, latin, named_table, paired_rows, seeded,
                     told_error)


def right_square(value):
    """Whether any value is a square, by its rows and columns."""
    if not isinstance(value, (list, tuple)) or not 1 <= len(value) <= 12:
        return False
    numbers = list(range(len(value)))
    for row in value:
        if not isinstance(row, (list, tuple)) or any(type(mark) is not int for mark in row) or sorted(row) != numbers:
            return False
    return all(sorted(column) == numbers for column in zip(*value))


def random_led(rng, rows):
    size = len(rows)
    return led_square(rows, *[rng.sample(range(size), size) for _ in range(3)])


def squares(number, count):
    rng = seeded(number)
    groups = all_group_rows()
    for at in range(count):
        if at % 2:
            yield rng, latin(rng, rng.randint(1, 6))
        else:
            yield rng, random_led(rng, rng.choice(groups))


class TestSquares(unittest.TestCase):
    def test_what_is_a_square(self):
        for value in any_values() + [cycle_rows(12), cycle_rows(13), as_lists(cycle_rows(5)), ((0, 1), [1, 0]), ((0, 1), (0, 1)),
                                     ((0, 0), (1, 1)), ((0, 1), (1, 0), (0, 1)), ((1, 2), (2, 1)), ((False,),), ((0, True), (1, 0))]:
            self.assertIs(is_square(value), right_square(value))
        for _, rows in squares(1, 20):
            self.assertIs(is_square(value=rows), True)

    def test_the_first_wrong_place(self):
        calls = (lambda rows: named_square(rows, None, None), square_group, open_square, lambda rows: open_holds(rows, None),
                 lambda rows: led_square(rows, None, None, None), lambda rows: square_match(rows, None),
                 lambda rows: square_match(cycle_rows(3), rows))
        for rows, at in ((None, ()), (((0, 1), (1, 2)), ()), (cycle_rows(13), ()), (((0, 0), (5, 0)), ()), (((0, 0), (1, 0)), (0, 1)),
                         ([[0, 1], [0, 1]], (1, 0)), (((0, 1, 2), (1, 0, 2), (2, 1, 0)), (1, 2)), (((0, 1), (1, True)), ())):
            for call in calls:
                told_error(self, InvalidTable, at, call, rows)
        told_error(self, InvalidTable, (0, 1), square_match, ((0, 0), (0, 0)), None)
        for value in any_values():
            if not right_square(value):
                for call in calls:
                    with self.assertRaises(InvalidTable):
                        call(value)

    def test_names_at_every_base(self):
        for _, rows in squares(2, 16):
            size = len(rows)
            for x in range(size):
                for y in range(size):
                    named = named_square(rows, x, y)
                    self.assertEqual(named_square(rows=as_lists(rows), x=x, y=y), named)
                    self.assertFalse(has_lists(named))
                    for a in range(size):
                        for b in range(size):
                            self.assertEqual(named[rows[a][y]][rows[x][b]], rows[a][b])
                    self.assertEqual(named[rows[x][y]], tuple(range(size)))
        for value in any_values() + [3, -1]:
            if not (type(value) is int and 0 <= value < 3):
                told_error(self, InvalidSize, "x", named_square, cycle_rows(3), value, value)
                told_error(self, InvalidSize, "y", named_square, cycle_rows(3), 2, value)

    def test_groups_and_squares_of_no_group(self):
        seen = {}
        for _, rows in squares(3, 60):
            named = named_square(rows, 0, 0)
            size = len(rows)
            told = all(named[named[x][y]][z] == named[x][named[y][z]] for x, y, z in itertools.product(range(size), repeat=3))
            group = square_group(rows)
            self.assertEqual(group, Group(named) if told else None)
            self.assertEqual(square_group(rows=as_lists(rows)), group)
            seen[told] = True
            for x, y in itertools.product(range(size), repeat=2):
                other = named_square(rows, x, y)
                if told:
                    self.assertIsNotNone(group_match(group, Group(other)))
                else:
                    with self.assertRaises(InvalidTable):
                        Group(other)
        self.assertEqual(len(seen), 2)


class TestOpenSquares(unittest.TestCase):
    def holds(self, rows, value):
        a, a1, b, b1, c, c1, d, d1 = value
        alike = rows[a][b] == rows[c][d] and rows[a][b1] == rows[c][d1] and rows[a1][b] == rows[c1][d]
        return alike and rows[a1][b1] != rows[c1][d1]

    def test_exactly_if_there_is_no_group(self):
        for rng, rows in squares(4, 80):
            found = open_square(rows)
            self.assertEqual(found is None, square_group(rows) is not None)
            if found:
                self.assertTrue(self.holds(rows, found))
                self.assertFalse(has_lists(open_square(rows=as_lists(rows))))
                self.assertIs(open_holds(rows, found), True)
                self.assertIs(open_holds(rows=as_lists(rows), value=found), True)
                self.check_spoilt(rows, found)
            for _ in range(100):
                value = tuple(rng.randrange(len(rows)) for _ in range(8))
                self.assertIs(open_holds(rows, value), self.holds(rows, value))

    def check_spoilt(self, rows, found):
        size = len(rows)
        for at in range(8):
            for mark in range(size):
                value = found[:at] + (mark,) + found[at + 1:]
                self.assertIs(open_holds(rows, value), self.holds(rows, value))
            for mark in (size, -1, None, str(found[at]), (found[at],)):
                self.assertIs(open_holds(rows, found[:at] + (mark,) + found[at + 1:]), False)
            if found[at] < 2:
                self.assertIs(open_holds(rows, found[:at] + (bool(found[at]),) + found[at + 1:]), False)
        for value in (list(found), found[:7], found + (0,)):
            self.assertIs(open_holds(rows, value), False)

    def test_any_values(self):
        rng = seeded(5)
        rows = latin(rng, 5)
        for value in any_values():
            self.assertIs(open_holds(rows, value), False)


class TestMatches(unittest.TestCase):
    def test_led_squares(self):
        for rng, rows in squares(6, 20):
            size = len(rows)
            lines, places, marks = [rng.sample(range(size), size) for _ in range(3)]
            led = led_square(rows, lines, places, marks)
            for x, y in itertools.product(range(size), repeat=2):
                self.assertEqual(led[lines[x]][places[y]], marks[rows[x][y]])
            self.assertEqual(led_square(rows=as_lists(rows), lines=tuple(lines), places=tuple(places), marks=tuple(marks)), led)
            self.assertFalse(has_lists(led))

    def test_no_permutations(self):
        right = (0, 2, 1)
        for value in any_values() + [(0, 1, 1), (0, 1, 3), (0, 1, 2, 3), (0, True, 2), "012"]:
            if not (isinstance(value, (list, tuple)) and all(type(x) is int for x in value) and sorted(value) == [0, 1, 2]):
                for at in range(3):
                    rows = [right] * at + [value] * (3 - at)
                    told_error(self, InvalidRow, at, led_square, cycle_rows(3), *rows)

    def check_match(self, one, other):
        """Three rows by which the one square is led to the other one."""
        found = square_match(one, other)
        self.assertIsInstance(found, tuple)
        self.assertEqual(len(found), 3)
        self.assertFalse(has_lists(found))
        self.assertEqual(led_square(one, *found), other)

    def test_squares_that_are_led(self):
        for rng, rows in squares(7, 40):
            if len(rows) <= 8:
                self.check_match(rows, random_led(rng, rows))
                self.check_match(rows, rows)
                self.assertEqual(square_match(one=as_lists(rows), other=as_lists(rows)), square_match(rows, rows))

    def test_by_trying_all(self):
        rng = seeded(8)
        seen = {}
        for _ in range(60):
            size = rng.randint(2, 4)
            one, other = latin(rng, size), latin(rng, size)
            told = any(tuple(sorted(led_square(one, range_row(size), places, marks))) == tuple(sorted(other))
                       for places in itertools.permutations(range(size)) for marks in itertools.permutations(range(size)))
            self.assertEqual(square_match(one, other) is not None, told)
            if told:
                self.check_match(one, other)
            seen[told] = True
        self.assertEqual(len(seen), 2)
        five = [latin(rng, 5) for _ in range(30)]
        kinds = {}
        for rows in five:
            kinds.setdefault(square_group(rows) is None, []).append(rows)
        self.assertEqual(len(kinds), 2)
        for rows in kinds[True]:
            self.check_match(kinds[True][0], rows)
            self.assertIsNone(square_match(rows, kinds[False][0]))

    def test_squares_of_groups(self):
        rng = seeded(9)
        groups = [rows for rows in all_group_rows() if len(rows) <= 8]
        for one in groups:
            for other in groups:
                match = square_match(random_led(rng, one), random_led(rng, other))
                alike = len(one) == len(other) and bool(group_matches(Group(one), Group(other)))
                self.assertEqual(match is not None, alike)
        self.assertIsNone(square_match(cycle_rows(2), cycle_rows(3)))
        two = cycle_rows(2)
        self.assertIsNone(square_match(paired_rows(two, two), named_table(cycle_rows(4), (2, 0, 1, 3))))
        six = latin(rng, 6)
        while square_group(six) is not None:
            six = latin(rng, 6)
        self.check_match(six, random_led(rng, six))
        self.assertIsNone(square_match(six, cycle_rows(6)))


def range_row(size):
    return tuple(range(size))


if __name__ == "__main__":
    unittest.main()
