"""[89] to [91]: live boards, against a scene that is kept by hand, and new ones behind the deeds that stand."""

import functools
import time
import unittest

from oncetested.boards import Board
from oncetested.errors import InvalidCommand, InvalidLot, InvalidSetting, Refused
from oncetested.forms import board_form
from oncetested.live import Live
from oncetested.trades import exchange_lots, exchanged_board
from oncetested.trees import shape_of
from shaping import BITS, FOUR, SIX, looked_lots, tree_board
from support import any_values, fair_board, has_lists, odd_board, seeded, settings_of, sums_board, told_error


def pair_board(many, rows):
    return Board(many, (many, many), [rows[x][y] for x in range(many) for y in range(many)])


NOT_FAIR = Board(4, (4, 4), [0] * 16)
SHELF = (pair_board(4, FOUR), pair_board(4, BITS), Board(4, (4,), (2, 0, 1, 3)), NOT_FAIR, pair_board(6, SIX), odd_board())
PLACES = {"set": 2, "swap": 2, "hold": 2, "free": 1, "trade": 3, "put": 2}


class Hand:
    """A live board by hand: marks by all parts' contents, in a dict, whose parts have labels in their order."""

    def __init__(self, board, shelf):
        self.many, self.shelf = board.many, shelf
        self.labels = list(range(len(board)))
        self.next = len(board)
        self.contents = {label: 0 for label in self.labels}
        self.held = {}
        self.marks = {setting: board(setting) for setting in settings_of(board.sizes)}

    def board(self):
        """The board of the parts of now."""
        now = [label for label in self.labels if label not in self.held]
        marks = []
        for setting in settings_of((self.many,) * len(now)):
            contents = dict(zip(now, setting)) | self.held
            marks.append(self.marks[tuple(contents[label] for label in self.labels)])
        return Board(self.many, (self.many,) * len(now), marks)

    def do(self, deed):
        """Do a deed; whether it can be done."""
        word, *numbers = deed.split(" ")
        return getattr(self, "do_" + word)(*[int(number) for number in numbers])

    def now(self, *labels):
        return all(label in self.labels and label not in self.held for label in labels)

    def content(self, *contents):
        return all(content < self.many for content in contents)

    def do_set(self, label, content):
        if not self.now(label) or not self.content(content):
            return False
        self.contents[label] = content
        return True

    def do_lead(self, label, *row):
        if not self.now(label) or sorted(row) != list(range(self.many)):
            return False
        at = self.labels.index(label)
        self.marks = {s: self.marks[s[:at] + (row[s[at]],) + s[at + 1:]] for s in self.marks}
        self.contents[label] = row.index(self.contents[label])
        return True

    def do_mark(self, *row):
        if sorted(row) != list(range(self.many)):
            return False
        self.marks = {s: row[mark] for s, mark in self.marks.items()}
        return True

    def do_swap(self, one, other):
        if one == other or not self.now(one, other):
            return False
        a, b = self.labels.index(one), self.labels.index(other)
        order = list(range(len(self.labels)))
        order[a], order[b] = b, a
        self.marks = {tuple(s[at] for at in order): mark for s, mark in self.marks.items()}
        self.labels = [self.labels[at] for at in order]
        return True

    def do_hold(self, label, content):
        if not self.now(label) or not self.content(content) or len(self.held) + 1 == len(self.labels):
            return False
        self.held[label] = content
        return True

    def do_free(self, label):
        if label not in self.held:
            return False
        self.contents[label] = self.held.pop(label)
        return True

    def do_trade(self, one, other, number):
        if self.held or one == other or not self.content(one, other):
            return False
        lots = exchange_lots(self.board(), one, other)
        if number >= len(lots):
            return False
        board = exchanged_board(self.board(), one, other, lots[number])
        self.marks = {s: board(s) for s in self.marks}
        return True

    def do_put(self, label, number):
        if not self.now(label) or number >= len(self.shelf):
            return False
        inner = self.shelf[number]
        parts = len(self.labels) - 1 + len(inner)
        if inner.many != self.many or inner == NOT_FAIR or parts > 8 or self.many ** parts > 20000:
            return False
        at = self.labels.index(label)
        further = list(range(self.next, self.next + len(inner)))
        self.next += len(inner)
        marks = {}
        for s in settings_of((self.many,) * parts):
            marks[s] = self.marks[s[:at] + (inner(s[at:at + len(inner)]),) + s[at + len(inner):]]
        self.marks = marks
        inside = [s for s in settings_of(inner.sizes) if inner(s) == self.contents[label]][0]
        del self.contents[label]
        self.contents.update(zip(further, inside))
        self.labels[at:at + 1] = further
        return True


def told(live):
    """All that a live board tells, but for what has changed."""
    return (live.board, live.labels, live.setting, live.held, live.shelf, live.deeds, live.now_shape(), live.now_form())


@functools.lru_cache(None)
def lots_looked(many, sizes, marks):
    return looked_lots(Board(many, sizes, marks))


def by_labels(live):
    lots = lots_looked(live.board.many, live.board.sizes, live.board.marks)
    return {tuple(sorted(live.labels[at] for at in lot)) for lot in lots}


def random_deed(rng, live, many):
    """A deed that often can be done."""
    label = lambda: rng.choice(live.labels) if rng.random() < 0.9 else rng.randrange(9)
    number = lambda: rng.randrange(many) if rng.random() < 0.95 else many
    row = lambda: rng.sample(range(many), many) if rng.random() < 0.9 else [0] * many
    word = rng.choice(("set", "lead", "mark", "swap", "hold", "hold", "free", "free", "trade", "put"))
    if word in ("lead", "mark"):
        numbers = ([label()] if word == "lead" else []) + row()
    elif word == "free":
        numbers = [rng.choice(live.held)[0] if live.held else label()]
    elif word == "trade":
        numbers = [number(), number(), rng.randrange(3)]
    elif word == "put":
        numbers = [label(), rng.randrange(len(SHELF) + 1)]
    else:
        numbers = [label(), label() if word == "swap" else number()]
    return " ".join([word] + [str(one) for one in numbers])


def starts(rng):
    yield sums_board()
    yield odd_board()
    yield tree_board(4, ("bare", (("free", (0, 1, 2)), 3)), {"bare": FOUR, "free": BITS})
    yield tree_board(6, ("line", (0, 1, 2)), {"line": SIX})
    for _ in range(8):
        many = rng.choice((2, 2, 3, 4))
        yield fair_board(rng, many, rng.randint(1, 5 if many == 2 else 3))


class TestDeeds(unittest.TestCase):
    def check_hand(self, live, hand):
        now = [label for label in hand.labels if label not in hand.held]
        self.assertEqual(live.board, hand.board())
        self.assertEqual((live.labels, live.held), (tuple(now), tuple(sorted(hand.held.items()))))
        self.assertEqual(live.setting, tuple(hand.contents[label] for label in now))

    def test_by_hand(self):
        rng = seeded(1)
        done = {word: [0, 0] for word in list(PLACES) + ["lead", "mark"]}
        for _ in range(3):
            for board in starts(rng):
                live, hand = Live(board, SHELF), Hand(board, SHELF)
                self.check_hand(live, hand)
                for _ in range(14):
                    deed = random_deed(rng, live, board.many)
                    if "put" in deed and board.many ** (len(hand.labels) + 1) > 300:
                        continue
                    before, changed = told(live), live.changed
                    lots, labels = by_labels(live), set(live.labels)
                    right = hand.do(deed)
                    done[deed.split(" ")[0]][right] += 1
                    if right:
                        self.assertIsNone(live.deed(deed))
                        self.assertEqual(live.deeds, before[5] + (deed,))
                        self.check_hand(live, hand)
                        self.check_changed(live, lots, labels, deed)
                    else:
                        told_error(self, Refused, 0, live.deed, deed)
                        self.assertEqual((told(live), live.changed), (before, changed))
                    self.assertEqual((live.now_shape(), live.now_form()), (shape_of(live.board), board_form(live.board)))
                self.assertEqual(told(live), told(self.behind(board, live.deeds)))
        for word, counts in done.items():
            self.assertGreater(counts[True], 3, word)
            self.assertGreater(counts[False], 1, word)

    def behind(self, board, deeds):
        """A new live board behind some deeds."""
        live = Live(board=board, shelf=list(SHELF))
        for deed in deeds:
            live.deed(text=deed)
        return live

    def check_changed(self, live, lots, labels, deed):
        both = labels & set(live.labels)
        now = {lot for lot in by_labels(live) if set(lot) <= both}
        before = {lot for lot in lots if set(lot) <= both}
        self.assertEqual(live.changed, (tuple(sorted(before - now)), tuple(sorted(now - before))))
        word = deed.split(" ")[0]
        if word in ("set", "lead", "mark", "swap", "put"):
            self.assertEqual(live.changed, ((), ()))
        if word == "hold":
            self.assertEqual(live.changed[0], ())
        if word == "free":
            self.assertEqual(live.changed[1], ())

    def test_undo_and_redo(self):
        rng = seeded(2)
        changes = 0
        for board in list(starts(rng)) * 2:
            live = Live(board, SHELF)
            deeds, undone = [], []
            for _ in range(30):
                lots, labels = by_labels(live), set(live.labels)
                before, changed = told(live), live.changed
                word = rng.choice(("deed", "deed", "undo", "undo", "redo"))
                if word == "deed" and len(deeds) < 12:
                    deed = random_deed(rng, live, board.many)
                    if "put" in deed and len(live.board.marks) * board.many > 300:
                        continue
                    try:
                        live.deed(deed)
                    except Refused:
                        self.assertEqual((told(live), live.changed), (before, changed))
                        continue
                    deeds.append(deed)
                    undone = []
                elif word == "undo" and deeds:
                    self.assertIsNone(live.undo())
                    undone.append(deeds.pop())
                elif word == "redo" and undone:
                    self.assertIsNone(live.redo())
                    deeds.append(undone.pop())
                elif word != "deed":
                    told_error(self, Refused, 0, getattr(live, word))
                    self.assertEqual((told(live), live.changed), (before, changed))
                    continue
                else:
                    continue
                self.assertEqual(live.deeds, tuple(deeds))
                self.assertEqual(told(live), told(self.behind(board, deeds)))
                self.check_changed(live, lots, labels, "undo")
                changes += live.changed != ((), ())
        self.assertGreater(changes, 10)

    def test_labels_of_parts_put_in(self):
        live = Live(sums_board(), SHELF)
        live.deed("put 1 0")
        self.assertEqual(live.labels, (0, 3, 4, 2))
        live.deed("put 3 2")
        self.assertEqual(live.labels, (0, 5, 4, 2))
        live.undo()
        live.undo()
        live.deed("put 2 1")
        self.assertEqual(live.labels, (0, 1, 3, 4))
        live.deed("hold 3 2")
        self.assertEqual((live.labels, live.held), ((0, 1, 4), ((3, 2),)))
        live.deed("put 0 2")
        self.assertEqual(live.labels, (5, 1, 4))
        live.deed("swap 5 4")
        live.deed("free 3")
        self.assertEqual((live.labels, live.setting), ((4, 1, 3, 5), (0, 0, 2, 1)))

    def test_the_least_setting_that_brings_the_content(self):
        live = Live(sums_board(), SHELF)
        live.deed("set 1 3")
        live.deed("put 1 1")
        self.assertEqual(live.setting, (0, 0, 3, 0))
        live.deed("put 4 2")
        self.assertEqual((live.setting, live.labels), ((0, 0, 3, 0), (0, 3, 5, 2)))

    def test_held_parts_are_counted(self):
        two = Board(2, (2,) * 7, [sum(s) % 2 for s in settings_of((2,) * 7)])
        live = Live(two, [pair_board(2, ((0, 1), (1, 0)))])
        live.deed("hold 3 1")
        live.deed("put 0 0")
        told_error(self, Refused, 0, live.deed, "put 1 0")
        self.assertEqual(live.labels, (7, 8, 1, 2, 4, 5, 6))
        eight = Live(Board(8, (8, 8, 8, 8), [a ^ b ^ c ^ d for a, b, c, d in settings_of((8,) * 4)]),
                     [pair_board(8, [[x ^ y for y in range(8)] for x in range(8)])])
        eight.deed("hold 0 0")
        told_error(self, Refused, 0, eight.deed, "put 1 0")

    def test_words_of_every_kind(self):
        live = Live(odd_board(), SHELF)
        live.deed("hold 1 2")
        before = told(live), live.changed
        wrong = ["", " ", "set", "set 0", "set 0 1 2", "set  0 1", "set 0  1", " set 0 1", "set 0 1 ", "set 0 01", "set 00 1", "set 0 -1", "set 0 +1",
                 "set 0 1.0", "set zero 1", "set 0 100000", "Set 0 1", "lead 0", "lead", "mark", "mark ", "swap 0", "hold 1", "free", "free 1 1",
                 "trade 0 1", "trade 0 1 2 3", "put 0", "put 0 0 0", "undo", "redo", "set\t0 1", "set 0 1\n", "set,0,1", "jump 0 1", "set 0 1_0"]
        for value in wrong + any_values():
            with self.assertRaises(InvalidCommand):
                live.deed(value)
        for deed in ("lead 0 0", "mark 0", "mark 0 1 2", "mark 0 1 2 2", "lead 0 0 1 2 4", "set 1 0", "free 0", "free 2", "hold 1 2", "set 3 0",
                     "swap 0 0", "swap 0 1", "put 1 0", "put 0 9", "put 0 3", "put 0 4", "trade 0 1 0", "set 0 99999", "hold 0 4", "lead 1 0 1 2 3"):
            told_error(self, Refused, 0, live.deed, deed)
        self.assertEqual((told(live), live.changed), before)
        live.deed("hold 0 0")
        told_error(self, Refused, 0, live.deed, "hold 2 0")
        live.deed("free 0")
        live.deed("free 1")
        for deed in ("trade 0 0 0", "trade 0 4 0", "trade 0 1 64"):
            told_error(self, Refused, 0, live.deed, deed)


class TestLive(unittest.TestCase):
    def test_at_first(self):
        shelf = [SHELF[0]]
        live = Live(odd_board(), shelf)
        shelf.clear()
        self.assertEqual((live.board, live.labels, live.setting, live.held), (odd_board(), (0, 1, 2), (0, 0, 0), ()))
        self.assertEqual((live.shelf, live.deeds, live.changed), ((SHELF[0],), (), ((), ())))
        self.assertEqual(Live(odd_board()).shelf, ())
        for word in ("undo", "redo"):
            told_error(self, Refused, 0, getattr(live, word))
        told_error(self, Refused, ("twice", 0, (0, 0), 1), Live, NOT_FAIR)
        told_error(self, Refused, ("size", 0), Live, board=Board(3, (2, 3), [0] * 6), shelf=())
        for call in (iter, len):
            with self.assertRaises(TypeError):
                call(live)

    def test_attributes_are_tuples(self):
        live = Live(odd_board(), list(SHELF))
        for deed in ("set 0 2", "hold 0 2", "put 1 0"):
            live.deed(deed)
            self.assertFalse(has_lists((live.labels, live.setting, live.held, live.shelf, live.deeds, live.changed, live.now_shape())))

    def test_what_has_changed(self):
        live = Live(odd_board())
        live.deed("hold 0 2")
        self.assertEqual(live.changed, ((), ((1, 2),)) if (1, 2) not in looked_lots(odd_board()) else ((), ()))
        live.deed("free 0")
        self.assertEqual(live.changed, (((1, 2),), ()))
        live.undo()
        self.assertEqual(live.changed, ((), ((1, 2),)))
        live.deed("set 1 1")
        self.assertEqual(live.changed, ((), ()))

    def test_mark_stays(self):
        rng = seeded(3)
        answers = set()
        for board in starts(rng):
            live = Live(board, SHELF)
            for _ in range(4):
                try:
                    live.deed(random_deed(rng, live, board.many))
                except Refused:
                    continue
            for _ in range(10):
                lot = sorted(rng.sample(live.labels, rng.randint(1, len(live.labels))))
                contents = [rng.randrange(board.many) for _ in lot]
                setting = list(live.setting)
                for label, content in zip(lot, contents):
                    setting[live.labels.index(label)] = content
                answer = live.board(setting) == live.board(live.setting)
                self.assertIs(live.mark_stays(lot, contents), answer)
                self.assertIs(live.mark_stays(lot=tuple(lot), contents=tuple(contents)), answer)
                answers.add(answer)
        self.assertEqual(answers, {True, False})

    def test_lots_and_contents_of_every_kind(self):
        live = Live(odd_board(), SHELF)
        live.deed("put 1 0")
        live.deed("swap 0 3")
        live.deed("hold 2 1")
        self.assertEqual(live.labels, (3, 0, 4))
        for value in any_values():
            if not isinstance(value, (list, tuple)) or len(value) == 0:
                told_error(self, InvalidLot, -1, live.mark_stays, value, None)
            if not isinstance(value, (list, tuple)) or len(value) != 2:
                told_error(self, InvalidSetting, -1, live.mark_stays, (0, 3), value)
        for lot, at in (((1,), 0), ((2,), 0), ((0, 2), 1), ((3, 0), 1), ([0, 0], 1), ((True,), 0), ((0, 3, 5), 2), ((0, None), 1), ((-1,), 0)):
            told_error(self, InvalidLot, at, live.mark_stays, lot, None)
        for contents, at in (((4, 0), 0), ([0, 4], 1), ((0, True), 1), ((None, 0), 0)):
            told_error(self, InvalidSetting, at, live.mark_stays, [0, 4], contents)


class TestLimits(unittest.TestCase):
    def test_256_settings_and_12_deeds(self):
        started = time.time()
        rng = seeded(4)
        for board in (Board(2, (2,) * 8, [sum(s) % 2 for s in settings_of((2,) * 8)]), fair_board(rng, 4, 4), fair_board(rng, 6, 3),
                      Board(4, (4,) * 4, [a ^ b ^ c ^ d for a, b, c, d in settings_of((4,) * 4)])):
            live = Live(board, SHELF[:4])
            count = 0
            while count < 12:
                try:
                    live.deed(random_deed(rng, live, board.many))
                    count += 1
                except Refused:
                    continue
                if rng.random() < 0.2:
                    live.undo()
                    live.redo()
                if len(live.board.marks) > 1000:
                    live.undo()
            live.now_form()
        self.assertLess(time.time() - started, 60)


if __name__ == "__main__":
    unittest.main()
