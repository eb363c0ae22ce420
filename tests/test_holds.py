"""[73], [74]: forms of parts left, shapes of some parts, and Holds, against boards of the parts left."""

import time
import unittest

from oncetested.errors import InvalidHolds, InvalidLot, InvalidSize, Refused
from oncetested.forms import Form, board_form, form_board, form_shape
from oncetested.held import gained_lots, left_lots
from oncetested.holds import Holds, gain_count, gaining_holds, held_form, left_shape
from oncetested.moves import tidy_form
from oncetested.putting import held_parts
from oncetested.shapes import is_shape
from shaping import BITS, FOUR, SIX, inner_lots, kinds_of_boards, leaves, lot_of, random_shape
from support import any_values, fair_board, has_lists, lots_of, rest, seeded, table_board, told_error
from test_moves import any_tree


def twisted_board():
    """Four parts, the first of which turns the odd squares of the next two on and off."""
    return table_board(4, 4, lambda x, y, z, d: x ^ y ^ z ^ d ^ int(max(x, y, z) < 2))


def boards(number, count=30, most=300):
    rng = seeded(number)
    for board, _ in kinds_of_boards(rng):
        if len(board.marks) <= most:
            yield rng, board, board_form(board)
    for _ in range(count):
        many = rng.randint(2, 4)
        board = fair_board(rng, many, rng.randint(1, 5 if many < 3 else 3))
        yield rng, board, board_form(board)
    for _ in range(count // 2):
        form = tidy_form(4, *any_tree(rng, 4, rng.randint(3, 4)))
        yield rng, form_board(form), form
    yield rng, twisted_board(), board_form(twisted_board())


def some_pairs(rng, form):
    held = rng.sample(range(len(form)), rng.randint(0, len(form) - 1))
    return tuple((part, rng.randrange(form.many)) for part in held)


def kept_lots(shape, lot):
    """What inner lots of a shape have of a lot, numbered anew."""
    return sorted({tuple(lot.index(part) for part in inner if part in lot) for inner in inner_lots(shape)} - {()})


class TestForms(unittest.TestCase):
    def test_held_forms(self):
        for rng, board, form in boards(1):
            for _ in range(4):
                pairs = some_pairs(rng, form)
                told = board_form(held_parts(board, pairs))
                self.assertEqual(held_form(form, pairs), told)
                self.assertEqual(held_form(form=form, pairs=list(pairs)), told)
            self.assertEqual(held_form(form, ()), form)

    def test_pairs_of_every_kind(self):
        form = board_form(twisted_board())
        for call in (held_form, gain_count):
            for value in any_values():
                if not isinstance(value, (list, tuple)):
                    told_error(self, InvalidHolds, -1, call, form, value)
            for pair in ((4, 0), (0, 4), (True, 0), (0, True), [0, 0], (0,), (0, 1, 2), None, (-1, 0)):
                told_error(self, InvalidHolds, 0, call, form, (pair,))
                told_error(self, InvalidHolds, 1, call, form, [(1, 2), pair])
            told_error(self, InvalidHolds, 1, call, form, ((1, 2), (1, 2), (7, 7)))
            told_error(self, Refused, -1, call, form, ((0, 2), (2, 1), (1, 0), (3, 3)))

    def test_left_shapes(self):
        rng = seeded(2)
        for _ in range(150):
            parts = rng.randint(1, 7)
            shape = random_shape(rng, list(range(parts)))
            for lot in rng.sample(lots_of(parts), min(8, 2 ** parts - 1)):
                told = left_shape(shape, lot)
                self.assertEqual(left_shape(shape=shape, lot=list(lot)), told)
                self.assertTrue(is_shape(told))
                self.assertEqual(sorted(leaves(told)), list(range(len(lot))))
                self.assertEqual(inner_lots(told), kept_lots(shape, lot))
                self.check_kinds(shape, lot, told)

    def check_kinds(self, shape, lot, told):
        kinds = {}
        for knot in self.knots(shape):
            met = [child for child in knot[1] if set(leaves(child)) & set(lot)]
            if len(met) > 1:
                parts = tuple(lot.index(part) for part in lot_of(knot) if part in lot)
                kinds[parts] = "bare" if len(met) == 2 else knot[0]
        self.assertEqual({lot_of(knot): knot[0] for knot in self.knots(told)}, kinds)

    def knots(self, tree):
        return [] if isinstance(tree, int) else [tree] + [knot for child in tree[1] for knot in self.knots(child)]

    def test_gains(self):
        gains = set()
        for rng, board, form in boards(3):
            single = [((part, rng.randrange(form.many)),) for part in range(len(form)) if len(form) > 1]
            for pairs in [some_pairs(rng, form) for _ in range(3)] + single:
                count = len(gained_lots(board, pairs)) if len(board.marks) < 70 else None
                told = gain_count(form=form, pairs=list(pairs))
                left = rest(len(form), dict(pairs))
                now, kept = inner_lots(form_shape(held_form(form, pairs))), kept_lots(form_shape(form), left)
                self.assertTrue(set(kept) <= set(now))
                self.assertEqual(told, len(now) - len(kept))
                if count is not None:
                    self.assertEqual(told, count)
                gains.add(told)
        self.assertIn(0, gains)
        self.assertGreater(len(gains), 1)

    def test_single_holds(self):
        found = 0
        for rng, board, form in boards(4):
            if len(form) > 4 or form.many > 5:
                continue
            triples = []
            for part in range(len(form)) if len(form) > 1 else ():
                for content in range(form.many):
                    count = gain_count(form, ((part, content),))
                    if count:
                        triples.append((part, content, count))
                    self.check_place(form, part, content)
            self.assertEqual(gaining_holds(form=form), tuple(triples))
            found += len(triples)
        self.assertGreater(found, 10)
        self.assertEqual(gaining_holds(Form(3, ((0, 1, 2),), ())), ())
        self.assertEqual(gaining_holds(board_form(twisted_board())), ((0, 2, 2), (0, 3, 2), (1, 2, 2), (1, 3, 2), (2, 2, 2), (2, 3, 2)))

    def check_place(self, form, part, content):
        """Where a part hangs tells where lots are gained."""
        shape = form_shape(form)
        left = rest(len(form), (part,))
        now = {tuple(left[at] for at in lot) for lot in inner_lots(form_shape(held_form(form, ((part, content),))))}
        kept = {tuple(left[at] for at in lot) for lot in kept_lots(shape, left)}
        above = [knot for knot in self.knots(shape) if part in knot[1]][0]
        higher = [knot for knot in self.knots(shape) if above in knot[1]]
        gained = now - kept
        if above[0] != "bare":
            self.assertEqual(gained, set())
            return
        within = set(lot_of(higher[0] if higher else above))
        self.assertTrue(all(set(lot) <= within for lot in gained))
        loose = [lot_of(above)] + [lot_of(child) for child in above[1]]
        strong = [lot_of(tree) for tree in self.trees(shape) if lot_of(tree) not in loose]
        crossed = {one for one in now for other in now if set(one) & set(other) and set(one) - set(other) and set(other) - set(one)}
        for lot in strong:
            self.assertIn(tuple(p for p in lot if p != part), now - crossed)

    def trees(self, tree):
        return [tree] if isinstance(tree, int) else [tree] + [other for child in tree[1] for other in self.trees(child)]


class TestHolds(unittest.TestCase):
    def told(self, holds):
        return (holds.form, holds.pairs, holds.left, holds.now, holds.count_now(), holds.count_gained())

    def behind(self, form, pairs):
        holds = Holds(form=form)
        for part, content in pairs:
            holds.hold(part=part, content=content)
        return holds

    def check_board(self, board, holds):
        pairs = holds.pairs
        self.assertEqual(list(pairs), sorted(pairs))
        self.assertEqual(holds.left, rest(len(board), dict(pairs)))
        self.assertEqual(holds.now, board_form(held_parts(board, pairs)))
        if len(board.marks) < 70:
            lots, gained = left_lots(board, pairs), gained_lots(board, pairs)
            self.assertEqual((holds.count_now(), holds.count_gained()), (len(lots), len(gained)))
            self.assertEqual(holds.gained_now(), tuple(sorted(gained)))
            for lot in lots_of(len(board)):
                if set(lot) <= set(holds.left):
                    self.assertIs(holds.is_tested(lot), lot in lots)
                    self.assertIs(holds.is_tested(lot=list(lot)), lot in lots)

    def test_deeds_in_any_order(self):
        for rng, board, form in boards(5, 20):
            holds = Holds(form)
            held, ahead = {}, []
            self.check_board(board, holds)
            for _ in range(14):
                word, part, content = rng.choice(("hold", "hold", "let", "turn", "back")), rng.randrange(len(form)), rng.randrange(form.many)
                before = self.told(holds)
                if word == "hold" and part not in held and len(held) + 1 < len(form):
                    self.assertIsNone(holds.hold(part, content))
                    ahead.append(dict(held))
                    held[part] = content
                elif word == "let" and part in held:
                    self.assertIsNone(holds.let_go(part=part))
                    ahead.append(dict(held))
                    del held[part]
                elif word == "turn" and part in held:
                    self.assertIsNone(holds.turn_to(part=part, content=content))
                    ahead.append(dict(held))
                    held[part] = content
                elif word == "back" and ahead:
                    self.assertIsNone(holds.take_back())
                    held = ahead.pop()
                else:
                    call = {"hold": lambda: holds.hold(part, content), "let": lambda: holds.let_go(part),
                            "turn": lambda: holds.turn_to(part, content), "back": holds.take_back}[word]
                    told_error(self, Refused, -1 if word == "back" else part, call)
                    self.assertEqual(self.told(holds), before)
                self.assertEqual(dict(holds.pairs), held)
                self.check_board(board, holds)
                self.assertEqual(self.told(holds), self.told(self.behind(form, list(held.items()))))
                self.assertFalse(has_lists((holds.pairs, holds.left, holds.gained_now())))

    def test_turning_to_its_own_content_is_a_deed(self):
        holds = Holds(board_form(twisted_board()))
        holds.hold(0, 2)
        holds.turn_to(0, 2)
        holds.turn_to(0, 1)
        for pairs in (((0, 2),), ((0, 2),), ()):
            holds.take_back()
            self.assertEqual(holds.pairs, pairs)
        told_error(self, Refused, -1, holds.take_back)

    def test_values_of_every_kind(self):
        holds = Holds(board_form(twisted_board()))
        holds.hold(1, 3)
        holds.hold(0, 0)
        before = self.told(holds)
        for value in any_values():
            if not (type(value) is int and value in (2, 3)):
                told_error(self, Refused, value, holds.hold, value, None)
            if not (type(value) is int and value in (0, 1)):
                told_error(self, Refused, value, holds.let_go, value)
                told_error(self, Refused, value, holds.turn_to, value, None)
            if not (type(value) is int and 0 <= value < 4):
                told_error(self, InvalidSize, "content", holds.hold, 2, value)
                told_error(self, InvalidSize, "content", holds.turn_to, 1, value)
            if not isinstance(value, (list, tuple)) or len(value) == 0:
                told_error(self, InvalidLot, -1, holds.is_tested, value)
        for lot, at in (((4,), 0), ((2, 2), 1), ([3, 2], 1), ((True,), 0), ((0, 2), 0), ((2, 3, 3), 2), ((2, None), 1), ((-1,), 0)):
            told_error(self, InvalidLot, at, holds.is_tested, lot)
        self.assertEqual(self.told(holds), before)
        holds.hold(3, 1)
        told_error(self, Refused, 2, holds.hold, 2, 0)
        told_error(self, Refused, 2, holds.hold, 2, 9)
        told_error(self, Refused, 0, Holds(Form(3, ((0, 1, 2),), ())).hold, 0, 0)
        for call in (iter, len):
            with self.assertRaises(TypeError):
                call(holds)

    def test_two_of_one_form_apart(self):
        form = board_form(twisted_board())
        one, other = Holds(form), Holds(form)
        one.hold(0, 2)
        other.hold(1, 1)
        other.hold(2, 1)
        self.assertEqual((one.pairs, other.pairs), (((0, 2),), ((1, 1), (2, 1))))
        other.take_back()
        self.assertEqual((one.count_now(), one.gained_now(), other.left), (7, ((1, 3), (2, 3)), (0, 2, 3)))
        self.assertEqual(form, board_form(twisted_board()))

    def test_more_than_200_lots(self):
        free = Form(4, [(0, 1, 2, 3)] * 8, [("free", tuple(range(8)), BITS)])
        holds = Holds(free)
        self.assertEqual((holds.count_now(), holds.count_gained()), (255, 0))
        told_error(self, InvalidSize, "lots", holds.gained_now)
        holds.hold(7, 3)
        self.assertEqual((holds.count_now(), holds.gained_now()), (127, ()))
        line = Form(6, [tuple(range(6))] * 19, [("line", tuple(range(19)), SIX)])
        holds = Holds(line)
        self.assertEqual((holds.count_now(), holds.gained_now()), (190, ()))
        longer = Holds(Form(6, [tuple(range(6))] * 20, [("line", tuple(range(20)), SIX)]))
        self.assertEqual(longer.count_now(), 210)
        told_error(self, InvalidSize, "lots", longer.gained_now)

    def test_just_200_lots(self):
        # A line of 19 has 190 lots; five knots above it, each with a part more, have two more each.
        cycle = tuple(tuple((x + y) % 6 for y in range(6)) for x in range(6))
        turned = [0, 1, 2, 3, 5, 4]
        other = tuple(tuple(turned[(turned[x] + turned[y]) % 6] for y in range(6)) for x in range(6))
        rows = [((0, 1), sum(SIX, ()))] + [((22 + at, at), sum(SIX, ())) for at in range(2, 19)]
        rows += [((22 + at, at), sum(cycle if at % 2 else other, ())) for at in range(19, 24)]
        holds = Holds(tidy_form(6, [list(range(6))] * 24, rows))
        self.assertEqual((holds.count_now(), holds.gained_now()), (200, ()))
        # Free knots of 7 and 6 have 127 and 63 lots; six knots above them make it one more than 200.
        beside = tuple(tuple([0, 2, 1, 3][FOUR[[0, 2, 1, 3][x]][[0, 2, 1, 3][y]]] for y in range(4)) for x in range(4))
        rows = [((0, 1), sum(BITS, ()))] + [((16 + at, at), sum(BITS, ())) for at in range(2, 7)]
        rows += [((7, 8), sum(FOUR, ()))] + [((15 + at, at), sum(FOUR, ())) for at in range(9, 13)]
        rows += [((23, 28), sum(beside, ()))] + [((16 + at, at), sum(FOUR if at % 2 else beside, ())) for at in range(13, 18)]
        holds = Holds(tidy_form(4, [list(range(4))] * 18, rows))
        self.assertEqual(holds.count_now(), 201)
        told_error(self, InvalidSize, "lots", holds.gained_now)

    def test_example(self):
        holds = Holds(board_form(twisted_board()))
        holds.hold(0, 2)
        self.assertEqual((holds.count_now(), holds.gained_now(), len(gaining_holds(holds.form))), (7, ((1, 3), (2, 3)), 6))


class TestLimits(unittest.TestCase):
    def test_12_parts_and_60_deeds(self):
        started = time.time()
        rng = seeded(6)
        for many, most in ((4, 3), (5, 3), (4, 4), (8, 3), (2, 4)):
            form = tidy_form(many, *any_tree(rng, many, 12, most))
            holds = Holds(form)
            for _ in range(60):
                part = rng.randrange(12)
                if part in holds.left and len(holds.left) > 1:
                    holds.hold(part, rng.randrange(many))
                elif part not in holds.left and rng.random() < 0.5:
                    holds.let_go(part)
                elif part not in holds.left:
                    holds.turn_to(part, rng.randrange(many))
                self.assertEqual(holds.count_gained(), gain_count(form, holds.pairs))
                self.assertTrue(holds.is_tested(holds.left))
                if holds.count_now() <= 200:
                    self.assertEqual(len(holds.gained_now()), holds.count_gained())
        self.assertLess(time.time() - started, 60)

    def test_six_parts(self):
        started = time.time()
        rng = seeded(7)
        for many in (4, 8, 5):
            form = tidy_form(many, *any_tree(rng, many, 6, 3))
            for part, content, count in gaining_holds(form):
                self.assertEqual(gain_count(form, ((part, content),)), count)
        self.assertLess(time.time() - started, 30)


if __name__ == "__main__":
    unittest.main()
