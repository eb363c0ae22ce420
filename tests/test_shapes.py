"""[23], [24], [25]: shapes, inner lots and their numbers."""

import unittest

from oncetested.errors import InvalidShape, InvalidSize
from oncetested.shapes import (count_lots, crossing_lot, inner_hull, is_inner, is_shape, knot_there, lot_number, lot_place,
                               need_shape, nth_lot, parts_of, strong_lots)
from shaping import knots, lot_of, places, random_shape
from support import any_values, has_lists, lots_of, seeded, told_error

SHAPE = ("line", (0, ("free", (1, 3, 4)), 2))


class TestNeedShape(unittest.TestCase):
    def test_right_ones(self):
        rng = seeded(1)
        for value in (0, ("bare", (0, 1)), ("line", (0, 1, 2)), ("line", (0, 2, 1)), ("line", (1, 0, 2)), ("free", (0, 1, 2)),
                      SHAPE, ("bare", (0, ("bare", (1, 2)))), ("bare", (("bare", (0, 2)), 1)), ("free", (("free", (0, 1, 4)), 2, 3)),
                      ("line", (("line", (0, 2, 3)), 4, 1)), ("bare", (0, 1, 2, 3))):
            self.assertIs(need_shape(value), value)
            self.assertIs(is_shape(value), True)
        for _ in range(60):
            shape = random_shape(rng, list(range(rng.randint(1, 16))))
            self.assertIs(need_shape(value=shape), shape)
            self.assertIs(is_shape(value=shape), True)
        deep = 15
        for part in range(14, -1, -1):
            deep = ("bare", (part, deep))
        self.assertIs(need_shape(deep), deep)

    def check(self, at, value):
        told_error(self, InvalidShape, at, need_shape, value)
        self.assertIs(is_shape(value), False)

    def test_not_built_so(self):
        for value in (None, True, False, -1, "", "0", "bare", (), (0,), (0, 1), [], ["bare", (0, 1)], ("bare", [0, 1]),
                      ("bare", (0,)), ("bare", ()), ("line", (0, 1)), ("free", (0, 1)), ("row", (0, 1, 2)), (("bare",), (0, 1)),
                      ("bare", (0, 1), 2), ("bare", (0, True)), ("bare", (0, "1")), ("bare", (0, None)), ("bare", 0),
                      ("bare", (0, ("line", (1, 2)))), ("bare", (0, ["bare", (1, 2)])), ("bare", (0, -1)), (["bare"], (0, 1)),
                      ("bare", (0, (1, 2))), ("Bare", (0, 1)), (0, "bare"), ("bare", "01"), ((), (0, 1))):
            self.check(0, value)
        self.check(0, ("bare", (5, ("free", (0, 1)))))

    def test_other_leaves(self):
        for value in (1, 7, ("bare", (0, 2)), ("bare", (1, 2)), ("bare", (0, 0)), ("line", (0, 1, 3)), ("bare", (1, 10 ** 30)),
                      ("bare", (0, ("free", (1, 2, 2)))), ("bare", (2, 0)), ("line", (3, 1, 0))):
            self.check(1, value)

    def test_children_that_stand_otherwise(self):
        for value in (("bare", (1, 0)), ("free", (0, 2, 1)), ("line", (2, 1, 0)), ("line", (1, 2, 0)), ("bare", (("bare", (1, 2)), 0)),
                      ("bare", (0, ("bare", (2, 1)))), ("free", (("line", (1, 2, 3)), 0, 4)), ("line", (0, ("free", (2, 1, 3)), 4)),
                      ("bare", (0, 2, 1))):
            self.check(2, value)

    def test_any_values(self):
        for value in any_values():
            if type(value) is int and value == 0:
                self.assertIs(is_shape(value), True)
            elif value == ("free", (0, 1, 2)):
                self.assertIs(need_shape(value), value)
            else:
                self.assertIs(is_shape(value), False)
                with self.assertRaises(InvalidShape):
                    need_shape(value)


class TestLots(unittest.TestCase):
    def test_by_hand(self):
        self.assertEqual((count_lots(SHAPE), lot_number(SHAPE, (0, 1, 3, 4))), (12, 2))
        self.assertEqual((inner_hull(SHAPE, (0, 3)), lot_place(SHAPE, (1, 4))), ((0, 1, 3, 4), ((1, 3, 4), (0, 2))))
        self.assertEqual(strong_lots(SHAPE), ((0,), (0, 1, 2, 3, 4), (1,), (1, 3, 4), (2,), (3,), (4,)))
        self.assertEqual(knot_there(SHAPE, (1, 3, 4)), ("free", ((1,), (3,), (4,))))
        self.assertEqual(knot_there(SHAPE, [0, 1, 2, 3, 4]), ("line", ((0,), (1, 3, 4), (2,))))
        self.assertIsNone(knot_there(SHAPE, (0,)))
        self.assertIsNone(knot_there(SHAPE, (0, 1, 3, 4)))
        self.assertEqual(parts_of(SHAPE[1][1]), (1, 3, 4))
        self.assertEqual((parts_of(7), parts_of(SHAPE)), ((7,), (0, 1, 2, 3, 4)))
        self.assertEqual(lot_place(0, (0,)), ((0,), ()))
        self.assertEqual((strong_lots(0), count_lots(0), nth_lot(0, 0), lot_number(0, [0])), (((0,),), 1, (0,), 0))

    def test_by_names(self):
        self.assertEqual(parts_of(shape=SHAPE), (0, 1, 2, 3, 4))
        self.assertEqual(strong_lots(shape=0), ((0,),))
        self.assertIsNone(knot_there(shape=SHAPE, lot=(0, 1)))
        self.assertIs(is_inner(shape=SHAPE, lot=(1, 3)), True)
        self.assertEqual(lot_place(shape=SHAPE, lot=(1, 3)), ((1, 3, 4), (0, 1)))
        self.assertEqual(inner_hull(shape=SHAPE, lot=(0, 2)), (0, 1, 2, 3, 4))
        self.assertIsNone(crossing_lot(shape=SHAPE, lot=(1, 3, 4)))
        self.assertEqual(count_lots(shape=SHAPE), 12)
        self.assertEqual(nth_lot(shape=SHAPE, number=2), (0, 1, 3, 4))
        self.assertEqual(lot_number(shape=SHAPE, lot=(0, 1, 3, 4)), 2)

    def test_every_lot_of_small_shapes(self):
        rng = seeded(2)
        for _ in range(60):
            many = rng.randint(1, 7)
            self.check_shape(random_shape(rng, list(range(many))), many)

    def check_shape(self, shape, many):
        told = dict(places(shape))
        inner = sorted(told)
        strong = sorted([(part,) for part in range(many)] + [lot_of(knot) for knot in knots(shape)])
        self.assertEqual(strong_lots(shape), tuple(strong))
        self.assertEqual(count_lots(shape), len(inner))
        self.assertEqual([nth_lot(shape, number) for number in range(len(inner))], inner)
        there = {lot_of(knot): (knot[0], tuple(lot_of(child) for child in knot[1])) for knot in knots(shape)}
        for lot in lots_of(many):
            self.assertIs(is_inner(shape, lot), lot in told)
            self.assertEqual(lot_place(shape, lot), told.get(lot))
            self.assertEqual(lot_place(shape, list(lot)), told.get(lot))
            self.assertIs(is_inner(shape, list(lot)), lot in told)
            self.assertEqual(knot_there(shape, lot), there.get(lot))
            self.assertEqual(lot_number(shape, lot), inner.index(lot) if lot in told else None)
            self.assertEqual(lot_number(shape, list(lot)), lot_number(shape, lot))
            above = [other for other in inner if set(lot) <= set(other)]
            hull = inner_hull(shape, list(lot))
            self.assertIn(hull, above)
            self.assertTrue(all(set(hull) <= set(other) for other in above))
            self.assertFalse(has_lists((hull, lot_place(shape, list(lot)), knot_there(shape, list(lot)))))
            if lot in told:
                over = [other for other in inner if set(lot) & set(other) and set(lot) - set(other) and set(other) - set(lot)]
                found = crossing_lot(shape, list(lot))
                self.assertEqual(found is None, lot in strong)
                self.assertTrue(found is None and not over or found in over)


class TestNumbers(unittest.TestCase):
    def test_no_number(self):
        for shape, count in ((SHAPE, 12), (0, 1), (("bare", (0, 1)), 3)):
            for value in any_values() + [count, count - 1, -count]:
                if type(value) is int and 0 <= value < count:
                    self.assertEqual(lot_number(shape, nth_lot(shape, value)), value)
                else:
                    told_error(self, InvalidSize, "number", nth_lot, shape, value)

    def test_great_lines_and_free_knots(self):
        line = ("line", tuple(range(16)))
        stretches = sorted(tuple(range(one, other)) for one in range(16) for other in range(one + 1, 17))
        self.assertEqual(count_lots(line), len(stretches))
        self.assertEqual([nth_lot(line, number) for number in range(len(stretches))], stretches)
        self.assertEqual([lot_number(line, lot) for lot in stretches], list(range(len(stretches))))
        free = ("free", tuple(range(16)))
        lots = sorted(lots_of(16))
        self.assertEqual(count_lots(free), 65535)
        for number in range(0, 65535, 997):
            self.assertEqual(nth_lot(free, number), lots[number])
            self.assertEqual(lot_number(free, lots[number]), number)
        self.assertEqual(nth_lot(free, 65534), (15,))
        mixed = ("free", (("line", tuple(range(8))),) + tuple(range(8, 16)))
        self.assertEqual(count_lots(mixed), 36 + 8 + 511 - 9)
        for number in range(0, count_lots(mixed), 7):
            self.assertEqual(lot_number(mixed, nth_lot(mixed, number)), number)


if __name__ == "__main__":
    unittest.main()
