"""[32] to [36]: groups, their elements, matches, and extended groups."""

import itertools
import math
import unittest

from oncetested.boards import Board
from oncetested.errors import InvalidRow, InvalidSize, InvalidTable, Refused
from oncetested.groups import (Group, centralizer_of, centre_of, element_classes, element_order, element_orders,
                               extended_group, fewest_makers, group_match, group_matches, is_commutative, made_part,
                               named_group, order_profile, parting_makers, retest_ratio, turned_group)
from support import (all_group_rows, any_values, as_lists, cycle_rows, has_lists, latin, mixed_group, named_table,
                     paired_rows, permutation_rows, quaternion_rows, seeded, told_error)

ROWS = all_group_rows()
THREE = permutation_rows([(1, 2, 0), (1, 0, 2)])


def sample_groups(number):
    """Each group with its elements renamed."""
    rng = seeded(number)
    return [Group(rows) for rows in ROWS] + [mixed_group(rng, rows) for rows in ROWS]


def closure(group, lot):
    found = {group.unit}
    while True:
        wider = found | {group.rows[x][y] for x in found for y in lot}
        if wider == found:
            return tuple(sorted(found))
        found = wider


def commuting(group, lot):
    return tuple(x for x in range(group.size) if all(group.rows[x][y] == group.rows[y][x] for y in lot))


class TestGroup(unittest.TestCase):
    def test_attributes(self):
        for group in sample_groups(1):
            size = len(group.rows)
            self.assertEqual((group.size, len(group)), (size, size))
            self.assertEqual(group.rows[group.unit], tuple(range(size)))
            for x in range(size):
                self.assertEqual(group.rows[x][group.undone[x]], group.unit)
            self.assertFalse(has_lists((group.rows, group.undone)))
            self.assertIsInstance(group.rows, tuple)

    def test_lists_and_later_changes(self):
        rows = [[0, 1], [1, 0]]
        group = Group(rows=rows)
        rows[0][0] = 5
        rows.pop()
        self.assertEqual(group.rows, ((0, 1), (1, 0)))
        self.assertEqual(group, Group(([0, 1], (1, 0))))

    def test_equality(self):
        group = Group(cycle_rows(3))
        self.assertTrue(group == Group(as_lists(cycle_rows(3))))
        for other in (Group(cycle_rows(2)), Group(named_table(cycle_rows(3), (1, 0, 2))), cycle_rows(3), 3, None,
                      Board(2, (2,), (0, 1))):
            self.assertFalse(group == other)
            self.assertTrue(group != other)
        with self.assertRaises(TypeError):
            iter(group)

    def test_no_table(self):
        wrong = [None, 5, "0", (), [], {}, ((0, 1),), ((0, 1), (1,)), ((0, 1), 1), ((0, 1), (1, 2)), ((0, 1), (1, True)),
                 ((0, -1), (1, 0)), ((0, 1), None), ((1,),), ("0",), ((False,),), ((0, 1, 2), (1, 2, 0)), ((0, 1), (1, 0), (0, 1)),
                 cycle_rows(13), as_lists(cycle_rows(13)), ((0,),) * 13, ((0, 1), "10"), ((0, 1), (1, (0,)))]
        for rows in wrong:
            told_error(self, InvalidTable, (), Group, rows)
        for value in any_values():
            if value == ((0, 1), (1, 0)):
                self.assertEqual(Group(value).size, 2)
            else:
                with self.assertRaises(InvalidTable):
                    Group(value)
        self.assertEqual(Group([[0]]).size, 1)

    def test_first_place_that_comes_again(self):
        for rows, at in ((((0, 0), (5, 0)), ()), (((0, 0), (1, 0)), (0, 1)), (((0, 1), (0, 1)), (1, 0)), (((0, 1), (1, 1)), (1, 1)),
                         (((0, 1, 2), (1, 0, 2), (2, 1, 0)), (1, 2)), ([[1, 1], [1, 1]], (0, 1)),
                         (((0, 1, 2), (1, 2, 0), (2, 1, 0)), (2, 1))):
            told_error(self, InvalidTable, at, Group, rows)
        rng = seeded(2)
        for _ in range(200):
            size = rng.randint(2, 5)
            rows = [list(row) for row in latin(rng, size)]
            rows[rng.randrange(size)][rng.randrange(size)] = rng.randrange(size)
            again = [(x, y) for x in range(size) for y in range(size)
                     if rows[x][y] in rows[x][:y] or rows[x][y] in [rows[z][y] for z in range(x)]]
            if again:
                told_error(self, InvalidTable, again[0], Group, rows)

    def test_first_three(self):
        rng = seeded(3)
        count = 0
        for _ in range(100):
            size = rng.randint(3, 6)
            rows = latin(rng, size)
            unlike = [triple for triple in itertools.product(range(size), repeat=3)
                      if rows[rows[triple[0]][triple[1]]][triple[2]] != rows[triple[0]][rows[triple[1]][triple[2]]]]
            if unlike:
                told_error(self, InvalidTable, unlike[0], Group, rows)
                count += 1
            else:
                self.assertEqual(Group(rows).rows, rows)
        self.assertGreater(count, 50)
        told_error(self, InvalidTable, (0, 0, 1), Group, ((0, 2, 1), (2, 1, 0), (1, 0, 2)))


class TestElements(unittest.TestCase):
    def test_products_and_powers(self):
        rng = seeded(4)
        for group in sample_groups(5):
            self.assertEqual((group.product(()), group.product([])), (group.unit, group.unit))
            for many in (1, 2, 3, 40):
                row = [rng.randrange(group.size) for _ in range(many)]
                done = group.unit
                for x in row:
                    done = group.rows[done][x]
                self.assertEqual((group.product(row), group.product(row=tuple(row))), (done, done))
            for x in range(group.size):
                done = group.unit
                for n in range(15):
                    self.assertEqual(group.power(x, n), done)
                    self.assertEqual(group.rows[group.power(x=x, n=-n)][done], group.unit)
                    done = group.rows[done][x]
                for n in (10 ** 19, -10 ** 19, 10 ** 19 - 1, 1 - 10 ** 19):
                    self.assertEqual(group.power(x, n), group.power(x, n % 27720))

    def test_errors(self):
        group = Group(THREE)
        for value in any_values():
            row = isinstance(value, (list, tuple)) and all(type(x) is int and 0 <= x < 6 for x in value)
            single = type(value) is int and 0 <= value < 6
            for call in (group.product, lambda lot: made_part(group, lot), lambda lot: centralizer_of(group, lot)):
                if row:
                    call(value)
                else:
                    told_error(self, InvalidSize, "element", call, value)
            if single:
                group.power(value, 1), element_order(group, value)
            else:
                told_error(self, InvalidSize, "element", group.power, value, None)
                told_error(self, InvalidSize, "element", element_order, group, value)
            if type(value) is int:
                group.power(1, value)
            else:
                told_error(self, InvalidSize, "n", group.power, 1, value)
        for value in ((6,), [0, 1, 6], (0, True), (-1,), (0, (0,)), 0, None, "0"):
            told_error(self, InvalidSize, "element", group.product, value)
            told_error(self, InvalidSize, "element", made_part, group, value)
            told_error(self, InvalidSize, "element", centralizer_of, group, value)

    def test_orders(self):
        for group in sample_groups(6):
            orders = []
            for x in range(group.size):
                powers = [group.power(x, n) for n in range(1, 13)]
                orders.append(powers.index(group.unit) + 1)
                self.assertEqual(element_order(group, x), orders[-1])
            self.assertEqual(element_orders(group), tuple(orders))
            self.assertEqual(order_profile(group), tuple((order, orders.count(order)) for order in sorted(set(orders))))
            self.assertIs(is_commutative(group), all(group.rows[x][y] == group.rows[y][x]
                                                     for x in range(group.size) for y in range(x)))
        self.assertEqual(element_order(group=Group([[0]]), x=0), 1)

    def test_parts_and_makers(self):
        for group in sample_groups(7):
            lots = [lot for many in range(4) for lot in itertools.combinations(range(group.size), many)]
            everything = tuple(range(group.size))
            for lot in lots[:60]:
                self.assertEqual(made_part(group, lot), closure(group, lot))
                self.assertEqual(made_part(group=group, lot=list(lot) * 2), closure(group, lot))
                self.assertEqual(centralizer_of(group, list(lot) + list(lot[:1])), commuting(group, lot))
            self.assertEqual(fewest_makers(group), next(lot for lot in lots if closure(group, lot) == everything))
            centre = commuting(group, everything)
            self.assertEqual(centre_of(group), centre)
            self.assertEqual(parting_makers(group), next(lot for lot in lots if commuting(group, lot) == centre))
            self.assertEqual(made_part(group, everything * 3), everything)
        self.assertEqual((made_part(group, ()), fewest_makers(Group([[0]])), parting_makers(Group(cycle_rows(7)))),
                         ((group.unit,), (), ()))

    def test_classes(self):
        for group in sample_groups(8):
            lots = sorted({tuple(sorted({group.product((g, x, group.undone[g])) for g in range(group.size)}))
                           for x in range(group.size)})
            self.assertEqual(element_classes(group), tuple(lots))
            pairs = list(itertools.product(range(group.size), repeat=2))
            alike = sum(group.rows[x][y] == group.rows[y][x] for x, y in pairs)
            many, whole = retest_ratio(group)
            self.assertEqual(many * len(pairs), alike * whole)
            self.assertEqual(math.gcd(many, whole), 1)
            self.assertTrue((many, whole) == (1, 1) or 8 * many <= 5 * whole)

    def test_retest_ratio_is_the_share_that_stays(self):
        for rows in (THREE, quaternion_rows(), cycle_rows(5)):
            group = Group(rows)
            many, whole = retest_ratio(group)
            pairs = list(itertools.product(range(group.size), repeat=2))
            for y, z in ((0, 1), (2, 1)):
                stay = both = 0
                for (x, q), (p, r) in itertools.product(pairs, repeat=2):
                    if group.product((x, y, q)) == group.product((p, y, r)):
                        stay += 1
                        both += group.product((x, z, q)) == group.product((p, z, r))
                share = sum(group.rows[group.rows[group.undone[y]][z]][x] == group.rows[x][group.rows[group.undone[y]][z]]
                            for x in range(group.size))
                self.assertEqual(both * group.size, stay * share)
            told = sum(len(centralizer_of(group, (y,))) for y in range(group.size))
            self.assertEqual(told * whole, many * group.size * group.size)

    def test_example(self):
        six = extended_group(extended_group(Group([[0]]), (0,), 3, 0), (0, 2, 1), 2, 0)
        self.assertEqual(order_profile(six), ((1, 1), (2, 3), (3, 2)))
        self.assertEqual((parting_makers(six), retest_ratio(six)), ((1, 3), (1, 2)))


class TestMatches(unittest.TestCase):
    def test_all_matches_of_small_groups(self):
        rng = seeded(9)
        for rows in ROWS:
            if len(rows) > 6:
                continue
            one, other = Group(rows), mixed_group(rng, rows)
            told = [p for p in itertools.permutations(range(len(rows)))
                    if all(p[one.rows[x][y]] == other.rows[p[x]][p[y]] for x in range(len(rows)) for y in range(len(rows)))]
            self.assertEqual(group_matches(one, other), tuple(told))
            self.assertEqual(group_match(one, other), told[0])

    def test_how_many_match_themselves(self):
        many = {(1, 1): 1, (2, 1): 1, (3, 2): 2}
        for size, count in ((1, 1), (2, 1), (3, 2), (5, 4), (7, 6), (11, 10), (12, 4), (8, 4), (10, 4)):
            self.assertEqual(len(group_matches(Group(cycle_rows(size)), Group(cycle_rows(size)))), count, many)
        two = cycle_rows(2)
        for rows, count in ((paired_rows(two, two), 6), (paired_rows(two, paired_rows(two, two)), 168), (quaternion_rows(), 24),
                            (paired_rows(cycle_rows(3), cycle_rows(3)), 48), (THREE, 6)):
            group = Group(rows)
            matches = group_matches(group, group)
            self.assertEqual(len(matches), count)
            self.assertEqual(list(matches), sorted(matches))

    def test_matches_exactly_if_profiles_are_equal(self):
        groups = sample_groups(10)
        for one in groups:
            for other in groups:
                alike = order_profile(one) == order_profile(other)
                match = group_match(one=one, other=other)
                self.assertEqual(match is not None, alike)
                if match is None:
                    self.assertEqual(group_matches(one, other), ())
                else:
                    self.assertEqual(named_table(one.rows, match), other.rows)
                    self.assertEqual(match, group_matches(one=one, other=other)[0])

    def test_turned_and_named(self):
        rng = seeded(11)
        for group in sample_groups(12):
            turned = turned_group(group)
            self.assertEqual(turned.rows, tuple(zip(*group.rows)))
            self.assertEqual(turned_group(group=turned), group)
            names = rng.sample(range(group.size), group.size)
            named = named_group(group, names)
            self.assertEqual(named.rows, named_table(group.rows, names))
            self.assertEqual(named_group(group=group, row=tuple(names)), named)

    def test_no_permutation(self):
        group = Group(cycle_rows(2))
        for value in any_values():
            right = isinstance(value, (list, tuple)) and all(type(x) is int for x in value) and sorted(value) == [0, 1]
            if right:
                self.assertEqual(named_group(group, value).size, 2)
            else:
                told_error(self, InvalidRow, -1, named_group, group, value)
        for row in ((0, 1), (0, 1, 1), (0, 1, 3), (0, 1, 2, 3), (1, 2, True), "012"):
            told_error(self, InvalidRow, -1, named_group, Group(cycle_rows(3)), row)


class TestExtended(unittest.TestCase):
    def test_elements(self):
        for group in sample_groups(13):
            for many in range(1, 12 // group.size + 1):
                for turn in group_matches(group, group)[:6]:
                    for extra in range(group.size):
                        self.check_extension(group, turn, many, extra)

    def check_extension(self, group, turn, many, extra):
        """By hand: t x is turn[x] t, many times t is extra."""
        done = list(range(group.size))
        for _ in range(many):
            done = [turn[x] for x in done]
        inner = [group.product((extra, x, group.undone[extra])) for x in range(group.size)]
        if turn[extra] != extra:
            told_error(self, Refused, "extra", extended_group, group, turn, many, extra)
        elif done != inner:
            told_error(self, Refused, "power", extended_group, group, turn, many, extra)
        else:
            made = extended_group(group=group, turn=list(turn), many=many, extra=extra)
            self.assertEqual(made, extended_group(group, turn, many, extra))
            size = group.size
            self.assertEqual(made.size, size * many)
            t = group.unit + size if many > 1 else extra
            for x in range(size):
                self.assertEqual(made.rows[x][:size], group.rows[x])
                self.assertEqual(made.rows[t][x], made.rows[turn[x] if many > 1 else made.product((t, x, made.undone[t]))][t])
                for i in range(many if many > 1 else 1):
                    self.assertEqual(made.product([x] + [t] * i), x + size * i)
            self.assertEqual(made.power(t, many), extra if many > 1 else t)

    def test_errors_in_order(self):
        group = Group(cycle_rows(4))
        for value in any_values():
            if not (type(value) is int and 1 <= value <= 3):
                told_error(self, InvalidSize, "many", extended_group, group, None, value, None)
            right = isinstance(value, (list, tuple)) and value and all(type(x) is int for x in value) and len(value) == 4
            if not right:
                told_error(self, Refused, "turn", extended_group, group, value, 2, None)
            if not (type(value) is int and 0 <= value < 4):
                told_error(self, Refused, "extra", extended_group, group, (0, 3, 2, 1), 2, value)
        for many in (0, -1, 4, True, 10 ** 30):
            told_error(self, InvalidSize, "many", extended_group, group, (0, 1, 2, 3), many, 0)
        for turn in ((1, 2, 3, 0), (0, 2, 1, 3), (0, 1, 2), (0, 1, 2, 2), "0123", (0, True, 2, 3), (0, 1, 2, 3, 4)):
            told_error(self, Refused, "turn", extended_group, group, turn, 2, 9)
        for extra in (1, 3, 4, -1, True, "0"):
            told_error(self, Refused, "extra", extended_group, group, (0, 3, 2, 1), 3, extra)
        told_error(self, Refused, "power", extended_group, group, (0, 3, 2, 1), 3, 0)
        told_error(self, Refused, "power", extended_group, group, [0, 3, 2, 1], 1, 2)
        self.assertEqual(extended_group(group, (0, 3, 2, 1), 2, 2).size, 8)

    def test_every_group_is_made_so(self):
        made = [Group([[0]])]
        for group in made:
            for many in range(2, 12 // group.size + 1):
                for turn in group_matches(group, group):
                    for extra in range(group.size):
                        try:
                            further = extended_group(group, turn, many, extra)
                        except Refused:
                            continue
                        if all(order_profile(further) != order_profile(other) for other in made):
                            made.append(further)
        self.assertEqual(len(made), len(ROWS))
        for rows in ROWS:
            self.assertTrue(any(group_match(Group(rows), group) for group in made))


if __name__ == "__main__":
    unittest.main()
