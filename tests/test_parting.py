"""[45], [46]: settings near 0, parts and settings that part two forms, and forms told by marks near 0."""

import itertools
import time
import unittest

from oncetested.boards import Board
from oncetested.errors import Refused
from oncetested.forms import Form, board_form, form_board
from oncetested.moves import led_form, marked_form, near_form, tidy_form
from oncetested.parting import form_by_marks, near_settings, parting_parts, parting_setting
from shaping import BITS, FOUR, SIX, kinds_of_boards, odd_mark
from support import fair_board, has_lists, seeded, settings_of, told_error
from test_moves import any_tree


def widest(form):
    """How many children the greatest bare knot has, or 3."""
    return max([3] + [len(wires) for kind, wires, _ in form.knots if kind == "bare"])


def changed(rng, form):
    """A form much like this one: one part led, or a knot's table exchanged for another one."""
    if not form.knots or rng.random() < 0.5:
        row = list(range(form.many))
        one, other = rng.sample(range(form.many), 2)
        row[one], row[other] = row[other], row[one]
        return led_form(form, rng.randrange(len(form)), row)
    at = rng.randrange(len(form.knots))
    rows = []
    for number, (kind, wires, table) in enumerate(form.knots):
        if kind != "bare":
            return led_form(form, 0, [1, 0] + list(range(2, form.many)))
        table = list(table)
        if number == at:
            # Two marks exchanged in all settings of the knot, but for the wire above.
            one, other = rng.sample(range(form.many), 2)
            table = [other if mark == one else one if mark == other else mark for mark in table]
        rows.append((wires, table))
    return tidy_form(form.many, form.names, rows)


def with_names(form, other):
    """A form renamed so that it has the base and the names of another one."""
    row = list(range(form.many))
    row[form.base], row[other.base] = row[other.base], row[form.base]
    form = marked_form(form, row)
    for part, names in enumerate(other.names):
        form = led_form(form, part, [form.names[part].index(name) for name in names])
    return form


def pairs_of_forms(number, count=60):
    rng = seeded(number)
    for _ in range(count):
        many = rng.choice((2, 3, 4, 4, 5))
        parts = rng.randint(1, {2: 6, 3: 4, 4: 4, 5: 3}[many])
        names, rows = any_tree(rng, many, parts, 4 if many < 5 else 3)
        form = tidy_form(many, names, rows)
        yield rng, form, changed(rng, form)
        yield rng, form, with_names(tidy_form(many, *any_tree(rng, many, parts)), form)
        # Three parts that bring the same marks beside 0 of any one of them.
        order = rng.sample(range(4), 4)
        found = []
        for least in (4, 2):
            table = [x ^ y ^ z ^ int(min(x, y, z) >= least) for x, y, z in settings_of((4, 4, 4))]
            rows = [(order[:3], table), ((4, order[3]), sum(FOUR, ()))]
            found.append(tidy_form(4, [[0, 1, 2, 3]] * 4, rows))
        yield rng, found[0], found[1]
    for board, _ in kinds_of_boards(rng):
        if len(board.marks) < 700:
            yield rng, board_form(board), changed(rng, board_form(board))


class TestNearSettings(unittest.TestCase):
    def test_small_ones(self):
        for many in (2, 3, 4):
            for parts in range(1, 5):
                for most in range(parts + 2):
                    told = tuple(s for s in settings_of((many,) * parts) if sum(c > 0 for c in s) <= most)
                    self.assertEqual(near_settings(many, parts, most), told)
        self.assertEqual(near_settings(many=3, parts=2, most=1), ((0, 0), (0, 1), (0, 2), (1, 0), (2, 0)))

    def test_greater_ones(self):
        self.assertEqual(len(near_settings(6, 6, 3)), 1 + 6 * 5 + 15 * 25 + 20 * 125)
        self.assertEqual(len(near_settings(4, 12, 3)), 1 + 12 * 3 + 66 * 9 + 220 * 27)
        self.assertEqual(near_settings(8, 12, 0), ((0,) * 12,))


class TestPartingParts(unittest.TestCase):
    def test_by_all_settings(self):
        counts = set()
        for _, one, other in pairs_of_forms(1):
            told = parting_parts(one=one, other=other)
            parts = len(one)
            if one == other:
                self.assertIsNone(told)
                self.assertIsNone(parting_setting(one, other))
                continue
            if one.base != other.base:
                self.assertEqual((told, parting_setting(one, other)), ((), (0,) * parts))
                continue
            unlike = [s for s in settings_of(one.sizes) if one(s) != other(s)]
            supports = {tuple(part for part in range(parts) if s[part]) for s in unlike}
            left = set(range(parts))
            for part in reversed(range(parts)):
                fewer = left - {part}
                if fewer and any(set(lot) <= fewer for lot in supports):
                    left = fewer
            self.assertEqual(told, tuple(sorted(left)))
            self.assertLessEqual(len(told), max(widest(one), widest(other)))
            least = min(s for s in unlike if all(part in told for part in range(parts) if s[part]))
            self.assertEqual(parting_setting(one=one, other=other), least)
            self.assertFalse(has_lists((told, least)))
            counts.add(len(told))
        self.assertTrue({1, 2, 3} <= counts)

    def test_as_many_parts_as_children(self):
        # Both boards bring the same marks where one of four parts is at 0.
        sums = Board(4, (4,) * 4, [a ^ b ^ c ^ d for a, b, c, d in settings_of((4,) * 4)])
        other = Board(4, (4,) * 4, [a ^ b ^ c ^ d ^ int(min(a, b, c, d) > 1) for a, b, c, d in settings_of((4,) * 4)])
        self.assertEqual(parting_parts(board_form(sums), board_form(other)), (0, 1, 2, 3))
        self.assertEqual(parting_setting(board_form(sums), board_form(other)), (2, 2, 2, 2))
        # So marks near 0 of the second one tell the first one.
        marks = [other(setting) for setting in near_settings(4, 4, 3)]
        self.assertEqual(form_by_marks(4, 4, marks), board_form(sums))

    def test_refusals(self):
        two, three = board_form(fair_board(seeded(2), 3, 2)), board_form(fair_board(seeded(2), 3, 3))
        four = board_form(fair_board(seeded(2), 4, 2))
        for call in (parting_parts, parting_setting):
            for one, other in ((two, three), (three, two), (two, four), (four, three)):
                told_error(self, Refused, -1, call, one, other)

    def test_12_parts(self):
        started = time.time()
        rng = seeded(3)
        for many, most in ((4, 4), (4, 3), (6, 3), (8, 3), (2, 4)):
            for _ in range(4):
                names, rows = any_tree(rng, many, 12, most)
                form = tidy_form(many, names, rows)
                other = changed(rng, form)
                lot, setting = parting_parts(form, other), parting_setting(form, other)
                if form == other:
                    self.assertIsNone(lot)
                else:
                    self.assertNotEqual(form(setting), other(setting))
                    self.assertTrue(all(part in lot for part in range(12) if setting[part]))
                    self.assertLessEqual(len(lot), max(widest(form), widest(other)))
                    if lot:
                        self.assertNotEqual(near_form(form, lot), near_form(other, lot))
        self.assertLess(time.time() - started, 60)


def told_forms(number, count=120):
    """Forms with bare knots of at most three children (two for more than four marks)."""
    rng = seeded(number)
    for _ in range(count):
        many = rng.choice((2, 3, 4, 4, 4, 5, 6))
        names, rows = any_tree(rng, many, rng.randint(1, 6 if many < 5 else 4), 3 if many < 5 else 2)
        yield rng, tidy_form(many, names, rows)
    # Knots of three that seem to be groups of two beside 0 of the third part.
    for tops in itertools.product((BITS, FOUR), repeat=2):
        for order in ((0, 1, 2), (0, 1, 3), (0, 2, 3), (1, 2, 3)):
            odd = [odd_mark(tuple(c ^ 2 for c in s)) for s in settings_of((4, 4, 4))]
            rest = [part for part in range(4) if part not in order]
            rows = [(order, odd), ((5, rest[0]), sum(tops[0], ())), ((6, 4), sum(tops[1], ()))]
            yield rng, tidy_form(4, [(0, 1, 2, 3)] * 5, rows)


class TestFormByMarks(unittest.TestCase):
    def test_marks_near_0_tell_the_form(self):
        kinds = set()
        for _, form in told_forms(4):
            settings = near_settings(form.many, len(form), 3)
            marks = [form(setting) for setting in settings]
            self.assertEqual(form_by_marks(form.many, len(form), marks), form)
            self.assertEqual(form_by_marks(many=form.many, parts=len(form), marks=tuple(marks)), form)
            kinds |= {(kind, len(wires)) for kind, wires, _ in form.knots}
        self.assertTrue({("bare", 2), ("bare", 3), ("free", 3), ("free", 4), ("free", 5)} <= kinds)

    def test_a_mark_changed(self):
        for rng, form in told_forms(5, 60):
            settings = near_settings(form.many, len(form), 3)
            marks = [form(setting) for setting in settings]
            at = rng.randrange(len(marks))
            marks[at] = (marks[at] + rng.randrange(1, form.many)) % form.many
            other = form_by_marks(form.many, len(form), marks)
            if other is not None:
                self.assertNotEqual(other, form)
                self.assertEqual([other(setting) for setting in settings], marks)
                self.assertLessEqual(widest(other), 3)

    def test_lines(self):
        for tree in ([(0, 1), (3, 2)], [(1, 0), (2, 3)], [(0, 2), (3, 1)]):
            form = tidy_form(6, [(0, 1, 2, 3, 4, 5)] * 3, [(wires, sum(SIX, ())) for wires in tree])
            marks = [form(setting) for setting in near_settings(6, 3, 3)]
            self.assertEqual(form.knots[0][0], "line")
            self.assertEqual(form_by_marks(6, 3, marks), form)

    def test_one_part_and_no_form(self):
        self.assertEqual(form_by_marks(4, 1, (2, 0, 1, 3)), Form(4, ((2, 0, 1, 3),), ()))
        self.assertIsNone(form_by_marks(4, 1, (2, 0, 1, 1)))
        self.assertIsNone(form_by_marks(2, 2, (0, 1, 1, 1)))
        self.assertEqual(form_by_marks(2, 2, (0, 1, 1, 0)), board_form(Board(2, (2, 2), (0, 1, 1, 0))))

    def test_bare_knots_of_four(self):
        odd = Board(4, (4,) * 4, [odd_mark(s) for s in settings_of((4,) * 4)])
        form = board_form(odd)
        self.assertEqual(widest(form), 4)
        settings = near_settings(4, 4, 3)
        told = form_by_marks(4, 4, [form(setting) for setting in settings])
        if told is not None:
            self.assertLessEqual(widest(told), 3)
            self.assertEqual([told(setting) for setting in settings], [form(setting) for setting in settings])
            self.assertNotEqual(form_board(told), odd)

    def test_six_marks_and_six_parts(self):
        started = time.time()
        rng = seeded(6)
        for many, most in ((6, 2), (5, 2), (4, 3), (6, 2), (4, 3)):
            names, rows = any_tree(rng, many, 6, most)
            form = tidy_form(many, names, rows)
            marks = [form(setting) for setting in near_settings(many, 6, 3)]
            self.assertEqual(form_by_marks(many, 6, marks), form)
            for _ in range(3):
                at = rng.randrange(len(marks))
                self.assertNotEqual(form_by_marks(many, 6, marks[:at] + [(marks[at] + 1) % many] + marks[at + 1:]), form)
        for rows in (FOUR, BITS, SIX, tuple(tuple((x + y) % 6 for y in range(6)) for x in range(6))):
            many = len(rows)
            kind = "free" if rows == tuple(zip(*rows)) else "line"
            form = Form(many, [tuple(range(many))] * 6, [(kind, tuple(range(6)), rows)])
            marks = [form(setting) for setting in near_settings(many, 6, 3)]
            self.assertEqual(form_by_marks(many, 6, marks), form)
            self.assertIsNone(form_by_marks(many, 6, marks[:-1] + [(marks[-1] + 1) % many]))
        self.assertLess(time.time() - started, 60)


if __name__ == "__main__":
    unittest.main()
