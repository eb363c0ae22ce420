"""[84] but for the splits, [85]: told cases of forms whose names are not told, by trying all names."""

import itertools
import time
import unittest

from oncetested.errors import InvalidCases, InvalidForm, InvalidSetting, InvalidSize, Refused
from oncetested.forms import Form, board_form
from oncetested.moves import tidy_form
from oncetested.told import Told, cross_settings, swapped_names, untold_pairs
from shaping import BITS, FOUR, SIX, kinds_of_boards
from support import any_values, as_lists, fair_board, has_lists, seeded, settings_of, sums_board, told_error


def names_of(form):
    """All names of a form's parts."""
    rows = [(form.base,) + row for row in itertools.permutations([mark for mark in range(form.many) if mark != form.base])]
    return list(itertools.product(rows, repeat=len(form)))


def brought(form, names, setting):
    return Form(form.many, names, form.knots)(setting)


def fitting(form, cases):
    return [names for names in names_of(form) if all(brought(form, names, setting) == mark for setting, mark in cases)]


def some_cases(rng, form, count, wrong=0.1):
    """Cases of a form with other names; a mark may be spoilt."""
    names = rng.choice(names_of(form))
    cases = []
    for _ in range(count):
        setting = tuple(rng.randrange(form.many) if rng.random() < 0.7 else 0 for _ in form.names)
        mark = brought(form, names, setting) if rng.random() > wrong / count else rng.randrange(form.many)
        cases.append((setting, mark))
    return cases


def lone(form, part, content):
    return tuple(content if at == part else 0 for at in range(len(form)))


def small(number, count=50):
    rng = seeded(number)
    for _ in range(count):
        many = rng.choice((2, 3, 3, 4))
        form = board_form(fair_board(rng, many, rng.randint(1, {2: 4, 3: 3, 4: 2}[many])))
        yield rng, form, some_cases(rng, form, rng.randint(1, 7), rng.choice((0, 1)))


class TestRefusals(unittest.TestCase):
    def test_forms(self):
        for value in any_values() + [sums_board()]:
            told_error(self, InvalidForm, -1, Told, value, None)

    def test_cases(self):
        form = board_form(sums_board())
        for value in any_values():
            if not isinstance(value, (list, tuple)):
                told_error(self, InvalidCases, -1, Told, form, value)
            told_error(self, InvalidCases, 1, Told, form, [((0, 1, 2), 3), value])
        wrong = [((0, 1), 0), ((0, 1, 4), 0), ((0, 1, 2), 4), ([0, 1, 2], 0), [(0, 1, 2), 0], ((0, 1, 2),), ((0, 1, 2), 0, 0), ((0, 1, 2), True),
                 ((0, 1, False), 0), ((0, 1, 2), -1), ((0, -1, 2), 1)]
        for case in wrong:
            told_error(self, InvalidCases, 0, Told, form, (case,))
            told_error(self, InvalidCases, 2, Told, form, [((0, 1, 2), 3), ((0, 0, 0), 0), case, None])

    def test_names(self):
        # Three, two, one contents left: 6, 2, 1 names of a part.
        form = tidy_form(4, [[0, 1, 2, 3]] * 5, [((0, 1), sum(BITS, ())), ((5, 2), sum(FOUR, ())), ((6, 3), sum(BITS, ())), ((7, 4), sum(FOUR, ()))])
        told_error(self, InvalidSize, "names", Told, form, ())
        told_error(self, InvalidSize, "names", Told, form, [(lone(form, 0, 1), 1)])
        cases = [(lone(form, 0, 1), 1), (lone(form, 0, 3), 0)]
        self.assertEqual(Told(form, cases).all_names(), ())
        told_error(self, InvalidSize, "names", Told, form, [((1, 1, 0, 0, 0), 1), (lone(form, 0, 1), 1), (lone(form, 0, 1), 1)])
        eight = Form(8, (tuple(range(8)),), ())
        told_error(self, InvalidSize, "names", Told, eight, ())
        self.assertEqual(len(Told(eight, [((7,), 2)]).all_names()), 720)

    def test_attributes(self):
        form = board_form(sums_board())
        cases = [((0, 1, 2), 3)]
        told = Told(form=form, cases=cases)
        cases.append(None)
        self.assertEqual((told.form, told.cases), (form, (((0, 1, 2), 3),)))
        for call in (iter, len):
            with self.assertRaises(TypeError):
                call(told)


class TestNames(unittest.TestCase):
    def test_by_trying_all(self):
        counts = set()
        for rng, form, cases in small(1):
            told = Told(form, cases)
            names = fitting(form, cases)
            self.assertEqual(told.all_names(), tuple(names))
            self.assertEqual(Told(form=form, cases=tuple(cases)).all_names(), tuple(names))
            for each in rng.sample(names_of(form), min(20, len(names_of(form)))):
                self.assertIs(told.names_fit(each), each in names)
            for each in names[:5]:
                self.assertIs(told.names_fit(value=each), True)
                self.check_spoilt(told, each)
            counts.add(len(names))
            self.check_marks(rng, form, told, names)
        self.assertTrue({0, 1, 2} <= counts)

    def check_spoilt(self, told, names):
        spoilt = [as_lists(names), list(names), names[:-1], names + names[-1:], names[:-1] + (list(names[-1]),), names[:-1] + (names[-1][:-1],),
                  names[:-1] + (names[-1][1:] + names[-1][:1],), names[:-1] + (names[-1][:1] * len(names[-1]),), names[:-1] + (None,),
                  names[:-1] + (tuple(bool(mark) if mark < 2 else mark for mark in names[-1]),)]
        for value in spoilt:
            self.assertIs(told.names_fit(value), False, value)

    def check_marks(self, rng, form, told, names):
        for setting in rng.sample(settings_of(form.sizes), min(6, len(settings_of(form.sizes)))):
            if not names:
                told_error(self, Refused, -1, told.can_be, setting)
                told_error(self, Refused, -1, told.sure_mark, setting)
                continue
            least = {}
            for each in names:
                least.setdefault(brought(form, each, setting), each)
            self.assertEqual(told.can_be(setting), tuple(sorted(least.items())))
            self.assertEqual(told.can_be(setting=list(setting)), tuple(sorted(least.items())))
            self.assertFalse(has_lists(told.can_be(setting)))
            self.assertEqual(told.sure_mark(setting), list(least)[0] if len(least) == 1 else None)
            self.assertEqual(told.sure_mark(setting=list(setting)), told.sure_mark(setting))

    def test_any_values(self):
        told = Told(board_form(sums_board()), [((1, 0, 0), 1)])
        nothing = Told(board_form(sums_board()), [((0, 0, 0), 1)])
        for value in any_values():
            self.assertIs(told.names_fit(value), False)
            if not isinstance(value, (list, tuple)) or len(value) != 3:
                for each in (told, nothing):
                    told_error(self, InvalidSetting, -1, each.can_be, value)
                    told_error(self, InvalidSetting, -1, each.sure_mark, value)
        for setting, at in (((4, 0, 0), 0), ((0, True, 9), 1), ([0, 0, None], 2)):
            told_error(self, InvalidSetting, at, told.can_be, setting)
            told_error(self, InvalidSetting, at, told.sure_mark, setting)

    def test_other_settings_than_the_forms_own_names_tell(self):
        form = board_form(sums_board())
        told = Told(form, [(lone(form, 0, 1), 3), (lone(form, 0, 2), 1), ((1, 1, 0), 0)])
        self.assertEqual(told.sure_mark((3, 0, 0)), 2)
        self.assertEqual(told.sure_mark((0, 1, 0)), 1)
        self.assertIsNone(told.sure_mark((0, 0, 1)))
        self.assertEqual([mark for mark, _ in told.can_be((0, 0, 1))], [1, 2, 3])
        self.assertEqual(told.sure_mark((0, 0, 0)), 0)


class TestUntold(unittest.TestCase):
    def test_pairs_and_exchanged_names(self):
        count = 0
        for rng, form, cases in small(2, 70):
            told = Told(form, cases)
            pairs = tuple((part, c, d) for part in range(len(form)) for c in range(1, form.many) for d in range(c + 1, form.many)
                          if not any(setting[part] in (c, d) for setting, _ in cases))
            self.assertEqual(untold_pairs(told=told), pairs)
            for names in told.all_names()[:3]:
                for part, c, d in pairs:
                    count += 1
                    other = swapped_names(names, part, c, d)
                    self.assertEqual(swapped_names(names=as_lists(names), part=part, one=d, other=c), other)
                    self.assertFalse(has_lists(swapped_names(as_lists(names), part, c, d)))
                    self.assertEqual(other[part][c], names[part][d])
                    self.assertEqual(swapped_names(other, part, c, d), names)
                    self.assertIs(told.names_fit(other), True)
                    self.assertNotEqual([brought(form, names, s) for s in settings_of(form.sizes)],
                                        [brought(form, other, s) for s in settings_of(form.sizes)])
        self.assertGreater(count, 50)
        self.assertEqual(swapped_names(((0, 1, 2), (0, 2, 1)), 1, 1, 2), ((0, 1, 2), (0, 1, 2)))

    def test_cross_settings(self):
        lengths = set()
        for rng, form, cases in small(3, 70):
            told = Told(form, cases)
            settings = [setting for setting, _ in cases]
            further = []
            for part in range(len(form)):
                left = [content for content in range(1, form.many) if lone(form, part, content) not in settings]
                further.extend(lone(form, part, content) for content in left[:-1])
            self.assertEqual(cross_settings(told=told), tuple(further))
            lengths.add(len(further))
            for names in told.all_names()[:2]:
                # If these are told too, at most one row of names fits.
                more = cases + [(setting, brought(form, names, setting)) for setting in further]
                self.assertEqual(Told(form, more).all_names(), (names,))
        self.assertTrue({0, 1, 2} <= lengths)

    def test_cases_of_single_contents(self):
        rng = seeded(4)
        answers = set()
        for _, form, _ in small(5, 60):
            names = rng.choice(names_of(form))
            places = [lone(form, part, content) for part in range(len(form)) for content in range(form.many)]
            cases = [(place, brought(form, names, place)) for place in rng.sample(places, rng.randint(1, len(places)))]
            told = Told(form, cases)
            sure = all(told.sure_mark(setting) is not None for setting in settings_of(form.sizes))
            self.assertIs(sure, cross_settings(told) == ())
            answers.add(sure)
            left = cross_settings(told)
            for at in range(len(left)):
                # With one of them left out some mark is not sure.
                more = cases + [(setting, brought(form, names, setting)) for setting in left[:at] + left[at + 1:]]
                self.assertEqual(len(Told(form, more).all_names()), 2)
        self.assertEqual(answers, {True, False})


class TestLimits(unittest.TestCase):
    def test_8_parts_and_40_cases(self):
        started = time.time()
        rng = seeded(6)
        for many, square, free in ((4, FOUR, 4), (4, BITS, 4), (3, None, 8), (6, SIX, 1), (2, None, 8), (5, None, 2), (8, None, 1)):
            square = square or tuple(tuple((x + y) % many for y in range(many)) for x in range(many))
            rows = [((0, 1), sum(square, ()))] + [((6 + at, at), sum(square, ())) for at in range(2, 8)]
            form = tidy_form(many, [list(range(many))] * 8, rows)
            hidden = [(form.base,) + tuple(rng.sample([m for m in range(many) if m != form.base], many - 1)) for _ in range(8)]
            mark = lambda setting: brought(form, hidden, setting)
            # The contents of some parts are told alone, but for a few.
            told_alone = [lone(form, part, c) for part in range(free, 8) for c in range(1, many - (1 if many > 6 else 0))]
            told_alone += [lone(form, part, 1) for part in range(free) if many > 5]
            told_alone = told_alone[:36] if many < 8 else [lone(form, part, c) for part in range(8) for c in range(1, 6)]
            cases = [(setting, mark(setting)) for setting in told_alone]
            while len(cases) < 40:
                setting = tuple(rng.randrange(many) for _ in range(8))
                cases.append((setting, mark(setting)))
            told = Told(form, cases)
            self.assertIs(told.names_fit(tuple(hidden)), True)
            self.assertIn(tuple(hidden), told.all_names())
            for _ in range(10):
                setting = tuple(rng.randrange(many) for _ in range(8))
                self.assertIn(mark(setting), [each for each, _ in told.can_be(setting)])
            untold_pairs(told)
            cross_settings(told)
        self.assertLess(time.time() - started, 60)

    def test_kinds_of_knots(self):
        for board, _ in kinds_of_boards(seeded(7)):
            form = board_form(board)
            if form.many <= 6 and len(form) <= 4:
                cases = [(lone(form, part, content), form(lone(form, part, content))) for part in range(len(form)) for content in range(1, form.many - 1)]
                self.assertEqual(Told(form, cases).all_names(), (form.names,))


if __name__ == "__main__":
    unittest.main()
