"""[12], [13], [14]: changes, noes, and how they are made smaller; full parts."""

import itertools
import unittest

from oncetested.boards import Board
from oncetested.errors import InvalidLot, InvalidSetting, InvalidSize, Refused
from oncetested.looks import (change_stays, cut_no, differing_places, is_full, mixed_contents, near_no, no_holds, pivot_no,
                              smaller_no, stay_places, stubborn_board)
from support import (any_values, as_lists, fair_board, has_lists, is_one_test, lots_of, odd_board, pick, random_board, rest,
                     seeded, settings_of, sums_board, told_error)


def join(board, lot, inside, outside):
    """The setting with these contents of a lot and of the rest."""
    others = rest(len(board), lot)
    told = dict(zip(lot, inside)) | dict(zip(others, outside))
    return tuple(told[part] for part in range(len(board)))


def stays(board, lot, u, v, w):
    return board(join(board, lot, u, w)) == board(join(board, lot, v, w))


def all_noes(board, lot):
    """All noes of a lot, ascending."""
    inner = settings_of(pick(board.sizes, lot))
    outer = settings_of(pick(board.sizes, rest(len(board), lot)))
    noes = []
    for u, v in itertools.combinations(inner, 2):
        told = [stays(board, lot, u, v, w) for w in outer]
        noes += [(u, v, w, x) for w, at_w in zip(outer, told) for x, at_x in zip(outer, told) if at_w and not at_x]
    return noes


def changes(no):
    return sum(a != b for a, b in zip(no[0], no[1]))


def walked_near(board, lot, no):
    """The near no by the walk."""
    u, v, w, x = no
    y = w
    for at in range(len(w)):
        if w[at] != x[at]:
            z = y[:at] + (x[at],) + y[at + 1:]
            if stays(board, lot, u, v, y) and not stays(board, lot, u, v, z):
                return u, v, y, z
            y = z
    raise AssertionError


def sought_smaller(board, lot, no):
    """The smaller no by all mixed contents."""
    u, v, w, x = no
    mixed = sorted(set(itertools.product(*zip(u, v))))
    found = []
    for one, other in itertools.combinations(mixed, 2):
        for y, z in ((w, x), (x, w)):
            if stays(board, lot, one, other, y) and not stays(board, lot, one, other, z):
                if changes((one, other)) < changes(no):
                    found.append((one, other, y, z))
    return min(found, key=lambda no: (changes(no), no)) if found else None


def some_boards(number, count):
    rng = seeded(number)
    boards = [random_board(rng, 24) for _ in range(count)]
    boards += [fair_board(rng, rng.randint(2, 4), 3) for _ in range(count // 6)]
    return rng, boards


class TestChanges(unittest.TestCase):
    def test_all_changes_of_small_boards(self):
        for board in some_boards(1, 12)[1]:
            for lot in lots_of(len(board)):
                inner = settings_of(pick(board.sizes, lot))
                outer = settings_of(pick(board.sizes, rest(len(board), lot)))
                for u in inner[:5]:
                    for v in inner[:5]:
                        told = [w for w in outer if stays(board, lot, u, v, w)]
                        self.assertEqual(stay_places(board, lot, u, v), tuple(told))
                        self.assertEqual(stay_places(board, list(lot), list(u), list(v)), tuple(told))
                        for w in outer:
                            self.assertIs(change_stays(board, lot, u, v, w), w in told)
                            self.assertIs(change_stays(board, list(lot), list(u), list(v), list(w)), w in told)

    def test_the_lot_of_all_parts(self):
        board = sums_board()
        self.assertIs(change_stays(board, (0, 1, 2), (0, 0, 1), (1, 0, 0), ()), True)
        self.assertIs(change_stays(board=board, lot=[0, 1, 2], u=(0, 0, 1), v=(0, 0, 0), w=[]), False)
        self.assertEqual(stay_places(board=board, lot=(0, 1, 2), u=(0, 0, 1), v=(1, 0, 0)), ((),))
        self.assertEqual(stay_places(board, (0, 1, 2), (0, 0, 1), (0, 0, 0)), ())

    def test_errors_in_order(self):
        board = odd_board()
        wrong = ((0,), (0, 4), (0, True), [0, -1], (0, 0, 0), None, "00", 0, (), ((0,), (0,)))
        for value in wrong:
            told_error(self, InvalidSetting, "u", change_stays, board, (0, 1), value, value, (9,))
            told_error(self, InvalidSetting, "v", change_stays, board, (0, 1), (0, 0), value, (9,))
            told_error(self, InvalidSetting, "u", stay_places, board, (0, 1), value, value)
            told_error(self, InvalidSetting, "v", stay_places, board, (0, 1), (0, 0), value)
        for value in ((), (4,), (0, 0), None, (True,), [-1], 0):
            told_error(self, InvalidSetting, "w", change_stays, board, (0, 1), (0, 0), [0, 0], value)
        told_error(self, InvalidSetting, "w", change_stays, board, (0, 1, 2), (0, 0, 0), (0, 0, 0), (0,))

    def test_a_lot_that_is_none_goes_ahead(self):
        board = odd_board()
        for lot, at in ((None, -1), ((), -1), ((1, 0), 1), ((3,), 0), ([0, 0], 1), ("01", -1), ((True,), 0), ((0, 1, 2, 3), 3)):
            told_error(self, InvalidLot, at, change_stays, board, lot, 0, 0, 0)
            told_error(self, InvalidLot, at, stay_places, board, lot, 0, 0)
            told_error(self, InvalidLot, at, no_holds, board, lot, 0)
            told_error(self, InvalidLot, at, near_no, board, lot, 0)
            told_error(self, InvalidLot, at, smaller_no, board, lot, 0)
            told_error(self, InvalidLot, at, cut_no, board, lot, 0)
            told_error(self, InvalidLot, at, pivot_no, board, lot, 0, 0)

    def test_any_values(self):
        board = Board(2, (2, 2), (0, 1, 1, 1))
        for value in any_values():
            for call, values in ((change_stays, ((0,), value, (0,), (0,))), (change_stays, ((0,), (0,), value, (0,))),
                                 (change_stays, ((0,), (0,), (0,), value)), (stay_places, ((0,), value, value)),
                                 (change_stays, (value, (0,), (0,), (0,)))):
                try:
                    call(board, *values)
                except (InvalidSetting, InvalidLot):
                    pass


class TestNoes(unittest.TestCase):
    def test_noes_hold(self):
        for board in some_boards(2, 10)[1]:
            for lot in lots_of(len(board)):
                noes = all_noes(board, lot)
                self.assertEqual(not noes, is_one_test(board, lot))
                inner = settings_of(pick(board.sizes, lot))
                outer = settings_of(pick(board.sizes, rest(len(board), lot)))
                for u, v, w, x in itertools.product(inner[:4], inner[:4], outer[:4], outer[:4]):
                    self.assertIs(no_holds(board, lot, (u, v, w, x)), (u, v, w, x) in noes)

    def test_one_thing_spoilt(self):
        board = odd_board()
        no = ((0, 0), (2, 2), (2,), (0,))
        self.assertIs(no_holds(board, (0, 1), no), True)
        self.assertIs(no_holds(board=board, lot=[0, 1], value=no), True)
        for value in (list(no), no[:3], no + ((0,),), (list(no[0]),) + no[1:], no[:3] + ([0],), ((2, 2), (0, 0), (2,), (0,)),
                      ((0, 0), (2, 2), (0,), (2,)), ((0, 0), (2, 2), (2,), (2,)), ((0, 0), (2, 4), (2,), (0,)),
                      ((0, False), (2, 2), (2,), (0,)), ((0, 0), (2, 2), (2,), (False,)), ((0, 0), (2, 2), 2, 0),
                      ((0, 0), (2, 2), (2, 0), (0,)), ((0,), (2,), (2,), (0,)), ((0, 0), (0, 0), (2,), (0,)),
                      ((0, 0), (2, 2), (), (0,)), ((0, 0), (2, 2), (2,), (4,)), ((0, 0), (2, 1), (2,), (0,)), no[::-1]):
            self.assertIs(no_holds(board, (0, 1), value), False)
        for value in any_values():
            self.assertIs(no_holds(board, (0, 1), value), False)
            self.assertIs(no_holds(board, (0, 1, 2), value), False)

    def test_places_and_mixed_contents(self):
        self.assertEqual(differing_places((), ()), ())
        self.assertEqual(differing_places((1, 2, 3), [1, 0, 0]), (1, 2))
        self.assertEqual(differing_places(one=[1], other=(1,)), ())
        self.assertEqual(mixed_contents((), ()), ((),))
        self.assertEqual(mixed_contents(u=(2, 0), v=(1, 3)), ((1, 0), (1, 3), (2, 0), (2, 3)))
        self.assertEqual(mixed_contents([2, 5], [1, 5]), ((1, 5), (2, 5)))
        rng = seeded(8)
        for _ in range(50):
            many = rng.randint(0, 6)
            u = tuple(rng.randrange(3) for _ in range(many))
            v = tuple(rng.randrange(3) for _ in range(many))
            self.assertEqual(mixed_contents(u, v), tuple(sorted(set(itertools.product(*zip(u, v))))))
            self.assertEqual(differing_places(u, v), tuple(at for at in range(many) if u[at] != v[at]))

    def test_near_smaller_and_cut(self):
        rng, boards = some_boards(6, 40)
        found = {}
        for board in boards:
            for lot in lots_of(len(board)):
                noes = all_noes(board, lot)
                for no in rng.sample(noes, min(12, len(noes))):
                    near = walked_near(board, lot, no)
                    self.assertEqual(near_no(board, lot, no), near)
                    self.assertEqual(changes(near[2:]), 1)
                    smaller = sought_smaller(board, lot, no)
                    self.assertEqual(smaller_no(board, list(lot), no), smaller)
                    cut = sought_smaller(board, lot, near) or near
                    self.assertEqual(cut_no(board, lot, no), cut)
                    self.assertFalse(has_lists(cut_no(board, list(lot), no)))
                    found[smaller is None] = True
                    if smaller is None:
                        self.check_marks_between(board, lot, no)
        self.assertEqual(len(found), 2)

    def check_marks_between(self, board, lot, no):
        """What [13] says of a no that has no smaller one."""
        u, v, w, x = no
        mark = board(join(board, lot, u, w))
        ends = (board(join(board, lot, u, x)), board(join(board, lot, v, x)))
        for mixed in mixed_contents(u, v):
            if mixed not in (u, v):
                self.assertNotEqual(board(join(board, lot, mixed, w)), mark)
                self.assertNotIn(board(join(board, lot, mixed, x)), ends)

    def test_no_no_is_refused(self):
        board = odd_board()
        wrong = any_values() + [as_lists(((0, 0), (2, 2), (2,), (0,))), ((0, 0), (2, 2), (0,), (2,))]
        for value in wrong:
            for call in (near_no, smaller_no, cut_no):
                told_error(self, Refused, -1, call, board, (0, 1), value)
            told_error(self, Refused, -1, pivot_no, board, (0, 1), value, None)

    def test_by_names(self):
        board, no = odd_board(), ((0, 0), (2, 2), (2,), (0,))
        self.assertEqual(near_no(board=board, lot=(0, 1), no=no), no)
        self.assertIsNone(smaller_no(board=board, lot=(0, 1), no=no))
        self.assertEqual(cut_no(board=board, lot=(0, 1), no=no), no)
        self.assertEqual(pivot_no(board=board, lot=(0, 1), no=no, part=1), no)


class TestFullParts(unittest.TestCase):
    def test_full_parts(self):
        for board in some_boards(11, 40)[1]:
            for part in range(len(board)):
                full = board.sizes[part] == board.many
                for w in settings_of(pick(board.sizes, rest(len(board), (part,)))):
                    marks = [board(join(board, (part,), (content,), w)) for content in range(board.sizes[part])]
                    full = full and sorted(marks) == list(range(board.many))
                self.assertIs(is_full(board, part), full)
        self.assertIs(is_full(board=Board(2, (2, 3), (0, 0, 1, 1, 1, 0)), part=0), True)

    def test_no_part(self):
        board = odd_board()
        for value in any_values():
            if type(value) is int and 0 <= value < 3:
                self.assertIs(is_full(board, value), True)
            else:
                told_error(self, InvalidLot, 0, is_full, board, value)

    def pivoted(self, board, lot, no, part):
        """The pivot no by its walk."""
        u, v, w, x = walked_near(board, lot, no)
        mark = board(join(board, lot, u, w))
        here = list(u)
        for at, other in enumerate(lot):
            if other != part and u[at] != v[at]:
                there = list(here)
                there[at] = v[at]
                place = lot.index(part)
                for content in range(board.many):
                    there[place] = content
                    if board(join(board, lot, there, w)) == mark:
                        break
                if not stays(board, lot, here, there, x):
                    return min(tuple(here), tuple(there)), max(tuple(here), tuple(there)), w, x
                here = there
        raise AssertionError

    def test_pivot_noes(self):
        rng = seeded(12)
        count = 0
        for _ in range(25):
            board = fair_board(rng, rng.randint(2, 4), 3)
            if rng.random() < 0.5:
                board = Board(board.many, board.sizes[:2] + (2,),
                              [board(setting[:2] + (setting[2],)) for setting in settings_of(board.sizes[:2] + (2,))])
            for lot in lots_of(3):
                noes = all_noes(board, lot)
                for no in rng.sample(noes, min(10, len(noes))):
                    for part in range(4):
                        if part not in lot or not is_full(board, part):
                            told_error(self, Refused, part, pivot_no, board, lot, no, part)
                            continue
                        told = pivot_no(board, lot, no, part)
                        self.assertEqual(told, self.pivoted(board, lot, no, part))
                        self.assertIs(no_holds(board, lot, told), True)
                        others = [at for at in differing_places(told[0], told[1]) if lot[at] != part]
                        self.assertEqual(len(others), 1)
                        if all(is_full(board, other) for other in lot):
                            self.assertEqual(changes(told), 2)
                        count += 1
        self.assertGreater(count, 100)

    def test_lots_of_three_parts(self):
        rng = seeded(14)
        far = 0
        for _ in range(12):
            board = fair_board(rng, 4, 4)
            if rng.random() < 0.3:
                sizes = (4, 2, 4, 4)
                board = Board(4, sizes, [board(setting) for setting in settings_of(sizes)])
            for lot in itertools.combinations(range(4), 3):
                inner = settings_of(pick(board.sizes, lot))
                outer = settings_of(pick(board.sizes, rest(4, lot)))
                for _ in range(150):
                    u, v = sorted(rng.sample(inner, 2))
                    no = (u, v, *rng.sample(outer, 2))
                    if not no_holds(board, lot, no):
                        continue
                    for part in lot:
                        if is_full(board, part):
                            told = pivot_no(board, list(lot), no, part)
                            self.assertEqual(told, self.pivoted(board, lot, no, part))
                            far += told != near_no(board, lot, no)
        self.assertGreater(far, 100)

    def test_refused_parts(self):
        board, no = odd_board(), ((0, 0), (2, 2), (2,), (0,))
        for value in any_values():
            if type(value) is int and value in (0, 1):
                self.assertEqual(pivot_no(board, (0, 1), no, value), no)
            else:
                with self.assertRaises(Refused) as caught:
                    pivot_no(board, (0, 1), no, value)
                self.assertIs(caught.exception.at, value)

    def test_two_marks(self):
        rng = seeded(13)
        for _ in range(60):
            board = random_board(rng)
            if board.many == 2:
                for lot in lots_of(len(board)):
                    noes = all_noes(board, lot)
                    self.assertTrue(not noes or min(changes(no) for no in noes) == 1)


class TestStubborn(unittest.TestCase):
    def test_marks(self):
        for many in range(1, 8):
            board = stubborn_board(many)
            self.assertEqual((board.many, board.sizes), (3, (2,) * (many + 1)))
            for setting in settings_of(board.sizes):
                ones = sum(setting[:-1])
                told = {0: 0, many: 2 * setting[-1]}.get(ones, 1)
                self.assertEqual(board(setting), told)

    def test_every_no_changes_all(self):
        for many in range(1, 6):
            board = stubborn_board(many=many)
            noes = all_noes(board, tuple(range(many)))
            self.assertTrue(noes)
            for no in noes:
                self.assertEqual(changes(no), many)
                self.assertIsNone(smaller_no(board, tuple(range(many)), no))

    def test_greatest(self):
        board = stubborn_board(7)
        no = ((0,) * 7, (1,) * 7, (0,), (1,))
        self.assertIs(no_holds(board, tuple(range(7)), no), True)
        self.assertIsNone(smaller_no(board, tuple(range(7)), no))
        self.assertEqual(cut_no(board, tuple(range(7)), no), no)

    def test_numbers(self):
        for value in any_values():
            if type(value) is int and 1 <= value <= 7:
                self.assertEqual(len(stubborn_board(value)), value + 1)
            else:
                told_error(self, InvalidSize, "parts", stubborn_board, value)


if __name__ == "__main__":
    unittest.main()
