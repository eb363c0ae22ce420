"""[84]: splits, walked by the test's own words, right ones and with one thing spoilt."""

import time
import unittest

from oncetested.errors import InvalidSetting, Refused
from oncetested.forms import Form, board_form
from oncetested.moves import tidy_form
from oncetested.splits import clash_split, clash_split_holds, split_holds, sure_split
from oncetested.told import Told
from shaping import BITS, FOUR, SIX
from support import any_values, as_lists, has_lists, seeded, settings_of, sums_board, told_error
from test_told import brought, lone, small


def mark_by(form, names, setting):
    """The mark of a setting by names that some contents have, or None if one has none."""
    if any((part, content) not in names for part, content in enumerate(setting)):
        return None
    rows = []
    for part in range(len(form)):
        row = [names.get((part, content)) for content in range(form.many)]
        left = [mark for mark in range(form.many) if mark not in row]
        rows.append([left.pop() if mark is None else mark for mark in row])
    return brought(form, rows, setting)


def walked(told, asked, split, names=None):
    """Whether a split is right, and the number of its ways."""
    form = told.form
    names = {(part, 0): form.base for part in range(len(form))} if names is None else names
    if split[0] == "mark":
        assert split == ("mark",)
        return asked is not None and mark_by(form, names, asked[0]) == asked[1], 1
    if split[0] == "case":
        _, number = split
        setting, mark = told.cases[number]
        return mark_by(form, names, setting) not in (None, mark), 1
    word, part, content, branches = split
    taken = [mark for (other, _), mark in names.items() if other == part]
    right = word == "part" and (part, content) not in names
    right = right and [mark for mark, _ in branches] == [mark for mark in range(form.many) if mark not in taken]
    ways = 0
    for mark, further in branches:
        told_there = walked(told, asked, further, names | {(part, content): mark})
        right, ways = right and told_there[0], ways + told_there[1]
    return right, ways


def places(split, road=()):
    """The roads to all splits in a split: numbers of branches."""
    yield road
    if split[0] == "part":
        for at, (_, further) in enumerate(split[3]):
            yield from places(further, road + (at,))


def exchanged(split, road, change):
    """A split with another one in a place."""
    if not road:
        return change(split)
    at = road[0]
    branches = list(split[3])
    branches[at] = (branches[at][0], exchanged(branches[at][1], road[1:], change))
    return split[:3] + (tuple(branches),)


def spoilings(split):
    """A split with one thing spoilt, in many ways."""
    found = [lambda s: list(s), lambda s: as_lists(s), lambda s: s + (0,), lambda s: s[:-1], lambda s: None, lambda s: (), lambda s: ("marks",), lambda s: ("case",)]
    if split[0] == "part":
        found += [
            lambda s: s[:3] + (s[3][:-1],), lambda s: s[:3] + (s[3] + s[3][-1:],), lambda s: s[:3] + (s[3][1:],), lambda s: s[:3] + (list(s[3]),),
            lambda s: s[:3] + (tuple(list(branch) for branch in s[3]),), lambda s: s[:2] + (0,) + s[3:], lambda s: s[:2] + (True,) + s[3:],
            lambda s: s[:1] + (99,) + s[2:], lambda s: s[:1] + (False,) + s[2:], lambda s: s[:2] + (-1,) + s[3:], lambda s: ("split",) + s[1:],
            lambda s: s[:3] + (tuple((mark + 1, further) for mark, further in s[3]),),
            lambda s: s[:3] + (tuple((bool(mark), further) if mark < 2 else (str(mark), further) for mark, further in s[3]),),
        ]
        if len(split[3]) > 1:
            found.append(lambda s: s[:3] + (s[3][::-1],))
    elif split[0] == "case":
        found += [lambda s: ("case", -1), lambda s: ("case", 99), lambda s: ("case", True if s[1] == 1 else False), lambda s: ("case", (s[1],))]
    return found


class TestSplits(unittest.TestCase):
    def test_clashes(self):
        rng = seeded(1)
        found = {True: 0, False: 0}
        for _, form, cases in small(1, 120):
            told = Told(form, cases)
            split = clash_split(told=told)
            fits = told.all_names() != ()
            found[fits] += 1
            self.assertIs(split is None, fits)
            if not fits:
                self.assertFalse(has_lists(split))
                self.assertEqual(walked(told, None, split)[0], True)
                self.assertIs(clash_split_holds(told=told, value=split), True)
                # What shows that nothing fits shows any mark of any setting, too.
                setting = rng.choice(settings_of(form.sizes))
                self.assertIs(split_holds(told, setting, 0, split), True)
                told_error(self, Refused, -1, sure_split, told, setting)
                self.check_spoilt(rng, told, None, split)
        self.assertGreater(min(found.values()), 15)

    def test_sure_marks(self):
        rng = seeded(2)
        found = {True: 0, False: 0}
        for _, form, cases in small(3, 80):
            told = Told(form, cases)
            if told.all_names() == ():
                continue
            for setting in rng.sample(settings_of(form.sizes), min(5, len(settings_of(form.sizes)))):
                mark = told.sure_mark(setting)
                split = sure_split(told=told, setting=setting)
                self.assertEqual(sure_split(told, list(setting)), split)
                self.assertIs(split is None, mark is None)
                found[split is None] += 1
                if split is not None:
                    self.assertFalse(has_lists(split))
                    self.assertEqual(walked(told, (setting, mark), split)[0], True)
                    self.assertIs(split_holds(told=told, setting=list(setting), mark=mark, value=split), True)
                    self.assertIs(clash_split_holds(told, split), False)
                    for other in range(form.many):
                        self.assertIs(split_holds(told, setting, other, split), other == mark)
                    self.check_spoilt(rng, told, (setting, mark), split)
        self.assertGreater(min(found.values()), 15)

    def check_spoilt(self, rng, told, asked, split):
        roads = list(places(split))
        for road in rng.sample(roads, min(4, len(roads))):
            there = split
            for at in road:
                there = there[3][at][1]
            for change in spoilings(there):
                value = exchanged(split, road, change)
                self.assertIs(self.holds(told, asked, value), False, (road, value))
            # Another case or another way to go on may hold, too.
            for other in [("case", number) for number in range(len(told.cases))] + [("mark",)]:
                value = exchanged(split, road, lambda _, other=other: other)
                self.assertIs(self.holds(told, asked, value), walked(told, asked, value)[0])

    def holds(self, told, asked, value):
        return clash_split_holds(told, value) if asked is None else split_holds(told, asked[0], asked[1], value)

    def test_some_splits_by_hand(self):
        form = Form(3, ((0, 1, 2), (0, 1, 2)), [("bare", (0, 1), (0, 1, 2, 1, 2, 0, 2, 0, 1))])
        told = Told(form, [((1, 0), 2), ((1, 1), 0)])
        inner = ("part", 1, 1, ((1, ("mark",)), (2, ("case", 1))))
        split = ("part", 0, 1, ((1, ("case", 0)), (2, inner)))
        self.assertIs(split_holds(told, (0, 1), 1, split), True)
        self.assertIs(split_holds(told, (0, 1), 2, split), False)
        self.assertIs(split_holds(told, (0, 2), 1, split), False)
        # A content that need not have a name may have one.
        last = ("part", 1, 2, ((1, ("case", 1)),))
        longer = ("part", 0, 1, ((1, ("case", 0)), (2, ("part", 1, 1, ((1, ("mark",)), (2, last))))))
        self.assertIs(split_holds(told, (0, 1), 1, longer), True)
        self.assertIs(split_holds(told, (0, 1), 1, ("part", 0, 1, ((1, ("case", 0)), (2, ("case", 1))))), False)
        self.assertEqual(told.sure_mark((0, 1)), 1)
        self.assertIsNone(clash_split(told))

    def test_no_contents_above_0(self):
        form = board_form(sums_board())
        told = Told(form, [((1, 2, 3), 0), ((0, 0, 0), 1)])
        self.assertEqual(clash_split(told), ("case", 1))
        self.assertIs(clash_split_holds(told, ("case", 1)), True)
        self.assertIs(clash_split_holds(told, ("case", 0)), False)
        lone_told = Told(form, [(lone(form, part, 1), 1) for part in range(3)])
        self.assertEqual(sure_split(lone_told, (0, 0, 0)), ("mark",))

    def test_values_of_every_kind(self):
        form = Form(4, ((0, 1, 2, 3), (0, 2, 1, 3)), [("bare", (0, 1), sum(FOUR, ()))])
        told = Told(form, [((1, 0), 2), ((2, 0), 3), ((0, 1), 1)])
        nothing = Told(form, [((0, 0), 2)])
        for value in any_values():
            self.assertIs(split_holds(told, (1, 1), 3, value), False)
            self.assertIs(clash_split_holds(told, value), False)
            self.assertIs(split_holds(told, (1, 1), 3, ("part", value, 1, ())), False)
            self.assertIs(split_holds(told, (1, 1), 3, ("part", 0, value, ())), False)
            self.assertIs(split_holds(told, (1, 1), 3, ("part", 0, 1, value)), False)
            self.assertIs(split_holds(told, (1, 1), 3, ("case", value)), False)
            self.assertIs(split_holds(told, (1, 1), 3, (value,)), False)
            if not isinstance(value, (list, tuple)) or len(value) != 2:
                told_error(self, InvalidSetting, -1, sure_split, told, value)
                told_error(self, InvalidSetting, -1, sure_split, nothing, value)
        for setting, at in (((4, 0), 0), ((0, True), 1), ([0, None], 1)):
            told_error(self, InvalidSetting, at, sure_split, told, setting)
            self.assertIs(split_holds(nothing, setting, 0, ("case", 0)), False)
        for mark in (4, -1, True, None):
            self.assertIs(split_holds(nothing, (1, 1), mark, ("case", 0)), False)
        self.assertIs(split_holds(nothing, (1, 1), 0, ("case", 0)), True)
        told_error(self, Refused, -1, sure_split, nothing, (1, 1))


class TestLimits(unittest.TestCase):
    def test_8_parts_and_40_cases(self):
        started = time.time()
        rng = seeded(4)
        for many, square, free in ((4, FOUR, 4), (4, BITS, 4), (3, None, 8), (6, SIX, 1), (2, None, 8), (5, None, 2)):
            square = square or tuple(tuple((x + y) % many for y in range(many)) for x in range(many))
            rows = [((0, 1), sum(square, ()))] + [((6 + at, at), sum(square, ())) for at in range(2, 8)]
            form = tidy_form(many, [list(range(many))] * 8, rows)
            hidden = [(form.base,) + tuple(rng.sample([m for m in range(many) if m != form.base], many - 1)) for _ in range(8)]
            alone = [lone(form, part, c) for part in range(free, 8) for c in range(1, many)]
            alone += [lone(form, part, 1) for part in range(free) if many > 5]
            cases = [(setting, brought(form, hidden, setting)) for setting in alone[:36]]
            while len(cases) < 40:
                setting = tuple(rng.randrange(many) if rng.random() < 0.5 else 0 for _ in range(8))
                cases.append((setting, brought(form, hidden, setting)))
            rng.shuffle(cases)
            told = Told(form, cases)
            for _ in range(10):
                setting = tuple(rng.randrange(many) for _ in range(8))
                split = sure_split(told, setting)
                self.assertIs(split is None, told.sure_mark(setting) is None)
                if split is not None:
                    self.assertIs(split_holds(told, setting, told.sure_mark(setting), split), True)
            for at in rng.sample(range(40), 6):
                setting, mark = cases[at]
                spoilt = cases[:at] + [(setting, (mark + 1) % many)] + cases[at + 1:]
                told = Told(form, spoilt)
                split = clash_split(told)
                self.assertIs(split is None, told.all_names() != ())
                if split is not None:
                    self.assertIs(clash_split_holds(told, split), True)
        self.assertLess(time.time() - started, 60)

    def test_many_names_to_go_through(self):
        started = time.time()
        rng = seeded(5)
        form = tidy_form(4, [[0, 1, 2, 3]] * 8, [((0, 1), sum(FOUR, ())), ((8, 2), sum(BITS, ())), ((9, 3), sum(FOUR, ()))]
                         + [((10 + at, 4 + at), sum(BITS, ())) for at in range(4)])
        alone = [(lone(form, part, c), c) for part in range(4, 8) for c in (1, 2, 3)]
        for _ in range(5):
            cases = list(alone)
            while len(cases) < 40:
                # Cases of all unknown parts at once leave many ways open for long.
                cases.append((tuple(rng.randrange(1, 4) for _ in range(4)) + (0,) * 4, rng.randrange(4)))
            told = Told(form, cases)
            split = clash_split(told)
            if split is not None:
                self.assertIs(clash_split_holds(told, split), True)
        self.assertLess(time.time() - started, 60)


if __name__ == "__main__":
    unittest.main()
