"""[29], [30], [31]: what follows from told lots, papers of it, boards of a shape, and how few lots tell a shape."""

import itertools
import math
import time
import unittest

from oncetested.errors import InvalidSize
from oncetested.facts import (closed_shape, fact_holds, fact_paper, fewest_facts, how_many_shapes, shape_board)
from oncetested.fair import is_fair
from oncetested.shapes import count_lots, inner_hull, is_inner, is_shape, lot_number, lot_place
from oncetested.trees import shape_of, swung_shape
from shaping import all_shapes, inner_lots, knots, leaves, looked_lots, random_shape
from support import any_values, as_lists, has_lists, lots_of, seeded, told_error


def overlaps(one, other):
    return bool(one & other and one - other and other - one)


def closed(many, lots):
    """All lots that follow, by closing in every way."""
    found = {frozenset(lot) for lot in lots} | {frozenset([part]) for part in range(many)} | {frozenset(range(many))}
    while True:
        made = set()
        for one, other in itertools.permutations(found, 2):
            if overlaps(one, other):
                made |= {one & other, one | other, one - other}
        if made <= found:
            return sorted(tuple(sorted(lot)) for lot in found)
        found |= made


def holds(many, lots, lot, value):
    """Whether steps are right, one after another."""
    made = []
    for step in value:
        if step[0] == "own":
            if len(step[1]) != 1 and step[1] != tuple(range(many)):
                return False
            made.append(frozenset(step[1]))
        elif step[0] == "told":
            if step[1] not in [tuple(told) for told in lots]:
                return False
            made.append(frozenset(step[1]))
        else:
            name, i, j = step
            if not 0 <= i < len(made) or not 0 <= j < len(made) or not overlaps(made[i], made[j]):
                return False
            made.append({"meet": made[i] & made[j], "both": made[i] | made[j], "less": made[i] - made[j]}[name])
    return bool(made) and tuple(sorted(made[-1])) == tuple(lot)


def told_cases(number, count, most=6):
    rng = seeded(number)
    for _ in range(count):
        many = rng.randint(1, most)
        lots = [rng.choice(lots_of(many)) for _ in range(rng.randint(0, 5))]
        yield rng, many, lots


def rule(shape):
    """How few lots tell a shape, as the document counts."""
    count = 0
    for kind, children in knots(shape):
        if kind == "line":
            count += (len(children) + 2) // 2
        elif kind == "free":
            count += 3 if len(children) == 3 else len(f"{len(children):b}")
        else:
            count += sum(not isinstance(child, int) and child[0] == "bare" for child in children)
    return count


class TestFollowing(unittest.TestCase):
    def test_all_told_pairs_of_lots_of_four_parts(self):
        for lots in itertools.combinations(lots_of(4), 2):
            self.assertEqual(inner_lots(closed_shape(4, lots)), closed(4, lots))

    def test_closed_shapes(self):
        for _, many, lots in told_cases(1, 120):
            shape = closed_shape(many, lots)
            self.assertTrue(is_shape(shape))
            self.assertFalse(has_lists(shape))
            self.assertEqual(inner_lots(shape), closed(many, lots))
            self.assertEqual(closed_shape(many=many, lots=tuple(list(lot) for lot in lots)), shape)

    def test_example(self):
        self.assertEqual(closed_shape(4, ((0, 1), (1, 2))), ("bare", (("line", (0, 1, 2)), 3)))
        told = ((0, 1), (1, 2))
        self.assertIs(fact_holds(3, told, (0,), (("told", (0, 1)), ("told", (1, 2)), ("less", 0, 1))), True)
        shape = ("line", (0, ("free", (1, 3, 4)), 2))
        self.assertEqual((count_lots(shape), lot_number(shape, (0, 1, 3, 4)), inner_hull(shape, (0, 3)), lot_place(shape, (1, 4))),
                         (12, 2, (0, 1, 3, 4), ((1, 3, 4), (0, 2))))
        self.assertEqual(swung_shape(shape, 3), ("free", (("line", (0, 3, 2)), 1, 4)))
        self.assertEqual((fewest_facts(("line", (0, 1, 2))), how_many_shapes(4)), (((0, 1), (1, 2)), 79))

    def test_what_follows_is_one_test_wherever_the_told_ones_are(self):
        for many in (1, 2, 3, 4):
            families = [set(inner_lots(shape)) for shape in all_shapes(range(many))]
            for lots in itertools.combinations(lots_of(many), min(many, 2)):
                fitting = [family for family in families if family >= set(lots)]
                self.assertEqual(set.intersection(*fitting), set(inner_lots(closed_shape(many, lots))))


class TestPapers(unittest.TestCase):
    def test_papers_of_what_follows_and_none_else(self):
        for _, many, lots in told_cases(2, 60):
            follows = closed(many, lots)
            for lot in lots_of(many):
                paper = fact_paper(many, lots, lot)
                self.assertEqual(fact_paper(many=many, lots=as_lists(lots), lot=list(lot)), paper)
                self.assertIs(paper is not None, lot in follows)
                if paper is not None:
                    self.assertFalse(has_lists(paper))
                    self.assertIs(holds(many, lots, lot, paper), True)
                    self.assertIs(fact_holds(many, lots, lot, paper), True)
                    self.assertIs(fact_holds(many=many, lots=as_lists(lots), lot=list(lot), value=paper), True)
                    other = lots_of(many)[0] if lot != (0,) else tuple(range(many))
                    self.assertIs(fact_holds(many, lots, other, paper), other == lot)

    def test_papers_with_one_thing_spoilt(self):
        for rng, many, lots in told_cases(3, 80):
            for lot in closed(many, lots):
                paper = fact_paper(many, lots, lot)
                at = rng.randrange(len(paper))
                changed = [paper[:at] + paper[at + 1:], paper[:at] + (("own", (0,)),) + paper[at:], paper + (("told", (0,)),),
                           paper[:at] + (("told", rng.choice(lots_of(many))),) + paper[at + 1:]]
                for name, i, j in [("meet", 0, 1), ("both", 1, 0), ("less", 0, 1), ("less", 1, 0), ("less", 0, 0), ("both", 2, 0)]:
                    changed.append(paper + ((name, i, j),))
                for value in changed:
                    self.assertIs(fact_holds(many, lots, lot, value), holds(many, lots, lot, value))
                for value in (list(paper), tuple(map(list, paper)), paper[:at] + (None,) + paper[at + 1:], paper[:at] + ((),) + paper[at + 1:],
                              paper[:at] + (paper[at] + (0,),) + paper[at + 1:], paper[:at] + (("go",) + paper[at][1:],) + paper[at + 1:],
                              paper[:at] + (as_lists(paper[at:at + 1])[0],) + paper[at + 1:]):
                    self.assertIs(fact_holds(many, lots, lot, value), False)

    def test_steps(self):
        lots = ((0, 1), (1, 2))
        ahead = (("told", (0, 1)), ("told", (1, 2)))
        for step, lot in ((("meet", 0, 1), (1,)), (("both", 0, 1), (0, 1, 2)), (("less", 0, 1), (0,)), (("less", 1, 0), (2,)),
                          (("own", (3,)), (3,)), (("own", (0, 1, 2, 3)), (0, 1, 2, 3)), (("told", (0, 1)), (0, 1))):
            self.assertIs(fact_holds(4, lots, lot, ahead + (step,)), True)
            for other in lots_of(4):
                self.assertIs(fact_holds(4, lots, other, ahead + (step,)), other == lot)
        for step in (("meet", 0, 0), ("both", 1, 1), ("meet", 0, 2), ("meet", -1, 0), ("meet", 0, -1), ("meet", True, 0), ("meet", 1, False),
                     ("meet", 0), ("meet", 0, 1, 1), ("own", (0, 1)), ("own", [3]), ("own", ()), ("own", (True,)), ("own", (4,)), ("own", 3),
                     ("told", (0, 2)), ("told", [0, 1]), ("told", (False, 1)), ("told", (0, True)), ("told", None), ["told", (0, 1)],
                     ("tell", (0, 1)), (None, (0, 1)), (("told",), (0, 1)), (["told"], (0, 1)), ("meet", "0", 1), ("meet", (0, 1), 1)):
            for lot in ((0,), (1,), (3,), (0, 1), (0, 1, 2), (0, 1, 2, 3)):
                self.assertIs(fact_holds(4, lots, lot, ahead + (step,)), False)
                self.assertIs(fact_holds(4, lots, lot, ahead + (step,) + (("own", lot),)), False)
        # Lots of which one lies in the other one do not overlap.
        self.assertIs(fact_holds(4, lots, (1,), (("own", (1,)), ("told", (0, 1)), ("meet", 0, 1))), False)
        self.assertIs(fact_holds(4, lots, (0,), (("told", (0, 1)), ("own", (1,)), ("less", 0, 1))), False)
        self.assertIs(fact_holds(4, lots, (2, 3), (("own", (0, 1, 2, 3)), ("told", (0, 1)), ("less", 0, 1))), False)

    def test_any_values(self):
        for value in any_values():
            self.assertIs(fact_holds(3, ((0, 1),), (0,), value), False)
            self.assertIs(fact_holds(3, ((0, 1),), (0,), (value,)), False)
            self.assertIs(fact_holds(3, ((0, 1),), (0,), (("own", value),)), type(value) is tuple and value == (0,) and value[0] is not False)
            self.assertIs(fact_holds(3, ((0, 1),), (0,), (("told", (0, 1)), ("meet", value, 0))), False)
        self.assertIs(fact_holds(1, (), (0,), (("own", (0,)),)), True)

    def test_limits(self):
        rng = seeded(4)
        started = time.time()
        for _ in range(6):
            lots = [rng.choice(lots_of(8)) for _ in range(20)]
            shape = closed_shape(8, lots)
            self.assertEqual(len(inner_lots(shape)), count_lots(shape))
            for lot in rng.sample(lots_of(8), 12):
                paper = fact_paper(8, lots, lot)
                self.assertIs(paper is not None, is_inner(shape, lot))
                if paper is not None:
                    self.assertIs(holds(8, lots, lot, paper), True)
                    self.assertIs(fact_holds(8, lots, lot, paper), True)
                    long = (("own", (1,)),) * (300 - len(paper))
                    moved = tuple(step if len(step) == 2 else (step[0], step[1] + len(long), step[2] + len(long)) for step in paper)
                    self.assertIs(fact_holds(8, lots, lot, long + moved), True)
        self.assertLess(time.time() - started, 20)


class TestBoards(unittest.TestCase):
    def test_every_shape_of_up_to_four_parts(self):
        for many in (1, 2, 3, 4):
            for shape in all_shapes(range(many)):
                board = shape_board(shape=shape)
                line = any(kind == "line" for kind, _ in knots(shape))
                self.assertEqual((board.many, board.sizes), (8 if line else 4, (board.many,) * many))
                self.assertIs(is_fair(board), True)
                if many < 4 or not line:
                    self.assertEqual(looked_lots(board), inner_lots(shape))
                self.assertEqual(shape_of(board), shape)

    def test_further_shapes_without_lines(self):
        rng = seeded(5)
        shapes = [("free", tuple(range(7))), ("bare", tuple(range(7)))]
        while len(shapes) < 14:
            shape = random_shape(rng, list(range(rng.randint(5, 7))))
            if all(kind != "line" for kind, _ in knots(shape)):
                shapes.append(shape)
        for shape in shapes:
            board = shape_board(shape)
            self.assertEqual(board.many, 4)
            self.assertEqual(shape_of(board), shape)

    def test_bounds(self):
        rng = seeded(6)
        self.assertEqual(shape_board(("line", (0, 1, 2, 3))).sizes, (8,) * 4)
        for shape in (("line", tuple(range(5))), ("bare", (("line", (0, 1, 2)), 3, 4)), ("free", (0, 1, ("line", (2, 3, 4)))),
                      ("free", tuple(range(8))), ("bare", tuple(range(8))), ("line", tuple(range(16)))):
            told_error(self, InvalidSize, "settings", shape_board, shape)
        for _ in range(20):
            shape = random_shape(rng, list(range(rng.randint(8, 16))))
            told_error(self, InvalidSize, "settings", shape_board, shape)


class TestFewest(unittest.TestCase):
    def test_fewest_of_small_shapes(self):
        for many in (1, 2, 3, 4):
            for shape in all_shapes(range(many)):
                lots = inner_lots(shape)
                told = fewest_facts(shape=shape)
                self.assertEqual(list(told), sorted(set(told)))
                self.assertTrue(set(told) <= set(lots))
                self.assertEqual(closed(many, told), lots)
                if told:
                    self.assertFalse(any(closed(many, fewer) == lots for fewer in itertools.combinations(lots, len(told) - 1)))
                self.assertEqual(len(told), rule(shape))

    def test_further_shapes(self):
        rng = seeded(7)
        shapes = all_shapes(range(5)) + [random_shape(rng, list(range(rng.randint(6, 16)))) for _ in range(120)]
        for many in range(3, 17):
            shapes.extend([("line", tuple(range(many))), ("free", tuple(range(many))), ("bare", tuple(range(many)))])
        for shape in shapes:
            told = fewest_facts(shape)
            self.assertEqual(len(told), rule(shape))
            self.assertEqual(list(told), sorted(set(told)))
            self.assertFalse(has_lists(told))
            self.assertTrue(all(is_inner(shape, lot) for lot in told))
            self.assertEqual(closed_shape(len(leaves(shape)), told), shape)

    def test_fewer_do_not_tell_a_line_of_five(self):
        for shape in (("line", tuple(range(5))), ("free", tuple(range(5)))):
            lots = inner_lots(shape)
            for fewer in itertools.combinations(lots, len(fewest_facts(shape)) - 1):
                self.assertNotEqual(closed_shape(5, fewer), shape)


class TestNumberOfShapes(unittest.TestCase):
    def test_by_listing(self):
        for many in range(1, 6):
            self.assertEqual(how_many_shapes(many), len(set(all_shapes(range(many)))))
        self.assertEqual([how_many_shapes(many=many) for many in range(1, 6)], [1, 1, 8, 79, 1152])

    def test_40_parts(self):
        # The shapes of n parts are n! times the coefficients of a series that is its own knots' series, and one part.
        whole = math.factorial(40)
        series = [0, whole] + [0] * 39
        for many in range(2, 41):
            series[many] = sum(part[many] for part in knot_series(series, many, whole))
        for many in range(1, 41):
            self.assertEqual(how_many_shapes(many) * whole, series[many] * math.factorial(many))


def knot_series(series, most, whole):
    """For each number of children the series of knots: bare, free and in line, all times a whole number."""
    powers = [whole] + [0] * most
    rows = []
    for count in range(1, most + 1):
        product = [0] * (most + 1)
        for i, a in enumerate(powers):
            for j in range(1, most + 1 - i):
                product[i + j] += a * (series[j] if j < most else 0)
        powers = [number // whole for number in product]
        if count >= 2:
            ways = math.factorial(count)
            rows.append([(number + (number if count > 2 else 0)) // ways + (number // 2 if count > 2 else 0) for number in powers])
    return rows


if __name__ == "__main__":
    unittest.main()
