"""[95]: books of told lots, against all shapes of few parts."""

import time
import unittest

from oncetested.books import Book
from oncetested.errors import InvalidLot, InvalidSize, Refused
from oncetested.facts import fact_holds, shape_board
from oncetested.fair import is_fair
from oncetested.readings import one_test
from oncetested.shapes import is_shape
from shaping import all_shapes, inner_lots, looks_one_test
from support import any_values, as_lists, has_lists, lots_of, seeded, told_error

FAMILIES = {many: [frozenset(inner_lots(shape)) for shape in all_shapes(range(many))] for many in range(1, 5)}


def fitting(many, told):
    """The one-test lots of all shapes that fit."""
    return [family for family in FAMILIES[many] if all((lot in family) == tested for lot, tested in told)]


def known(families, lot):
    answers = {lot in family for family in families}
    return answers.pop() if len(answers) == 1 else None


class TestBook(unittest.TestCase):
    def test_sizes(self):
        for value in any_values() + [9, 0]:
            if type(value) is int and 1 <= value <= 8:
                book = Book(value)
                self.assertEqual((book.many, book.told), (value, ()))
            else:
                told_error(self, InvalidSize, "parts", Book, value)
        self.assertEqual(Book(many=3).many, 3)
        with self.assertRaises(TypeError):
            iter(Book(2))
        with self.assertRaises(TypeError):
            len(Book(2))

    def test_against_all_shapes(self):
        rng = seeded(1)
        seen = set()
        for _ in range(60):
            many = rng.randint(1, 4)
            book, told = Book(many), []
            for _ in range(8):
                lot, tested = rng.choice(lots_of(many)), rng.random() < 0.4
                fits = bool(fitting(many, told + [(lot, tested)]))
                shape = book.told_shape()
                self.assertIs(book.tell(lot, tested), fits)
                if fits and (lot, tested) not in told:
                    told.append((lot, tested))
                if not fits:
                    self.assertEqual(book.told_shape(), shape)
                self.assertEqual(book.told, tuple(told))
                seen.add(fits)
                if rng.random() < 0.2 and told:
                    at = rng.randrange(len(told))
                    self.assertIsNone(book.forget(at))
                    del told[at]
                    self.assertEqual(book.told, tuple(told))
                self.check_known(book, many, told)
        self.assertEqual(seen, {True, False})

    def check_known(self, book, many, told):
        families = fitting(many, told)
        lots = {True: [], False: [], None: []}
        for lot in lots_of(many):
            answer = known(families, lot)
            self.assertIs(book.known(lot), answer)
            lots[answer].append(lot)
            self.check_paper(book, many, told, lot, answer)
        self.assertEqual(book.known_lots(), tuple(tuple(sorted(lots[answer])) for answer in (True, False, None)))
        shape = book.told_shape()
        self.assertTrue(is_shape(shape))
        self.assertEqual(inner_lots(shape), sorted(lots[True]))
        self.assertFalse(has_lists((book.known_lots(), book.told, shape)))

    def check_paper(self, book, many, told, lot, answer):
        paper = book.known_paper(lot)
        self.assertIs(paper is None, answer is None)
        self.assertIs(book.paper_shows(lot, paper), answer)
        if paper is not None:
            right = [each for each, tested in told if tested]
            self.assertFalse(has_lists(paper))
            if answer:
                self.assertEqual(paper[0], lot)
                self.assertIs(fact_holds(many, right, lot, paper[1]), True)
            else:
                self.assertIn((paper[0], False), told)
                self.assertIs(fact_holds(many, right + [lot], paper[0], paper[1]), True)

    def test_lists_and_names(self):
        book = Book(4)
        self.assertIs(book.tell(lot=[0, 1], tested=True), True)
        self.assertIs(book.tell(tested=True, lot=(1, 2)), True)
        self.assertIs(book.tell([0, 1], True), True)
        self.assertEqual(book.told, (((0, 1), True), ((1, 2), True)))
        self.assertIs(book.known(lot=[0, 1, 2]), True)
        self.assertEqual(book.known_paper(lot=[0, 1, 2]), book.known_paper((0, 1, 2)))
        self.assertIs(book.paper_shows(lot=[0, 1, 2], value=book.known_paper((0, 1, 2))), True)
        self.assertIs(one_test(book.fitting_board(lot=[0, 3], tested=False), (0, 3)), False)
        self.assertIsNone(book.forget(number=0))
        self.assertEqual(book.told, (((1, 2), True),))
        self.assertFalse(has_lists(book.told))

    def test_clashes_change_nothing(self):
        book = Book(4)
        for lot, tested in (((0, 1), True), ((1, 2), True), ((0, 3), False)):
            self.assertIs(book.tell(lot, tested), True)
        told = book.told
        for lot, tested in (((0, 1), False), ((0, 1, 2), False), ((0,), False), ((0, 1, 2, 3), False), ((0, 3), True), ((3,), False)):
            self.assertIs(book.tell(lot, tested), False)
            self.assertEqual(book.told, told)
        # The lot of 0 and 3 would follow from these and the told ones.
        self.assertIs(book.known((0, 2, 3)), False)
        self.assertIs(book.tell((0, 2, 3), True), False)
        self.assertIs(book.known((0, 2)), None)
        self.assertIs(book.tell((0, 3), False), True)
        self.assertEqual(book.told, told)

    def test_given_up(self):
        book = Book(3)
        book.tell((0, 1), True)
        book.tell((1, 2), False)
        self.assertIs(book.known((0, 1)), True)
        for value in any_values() + [2, -1]:
            if not (type(value) is int and 0 <= value < 2):
                told_error(self, Refused, 0, book.forget, value)
        self.assertEqual(book.told, (((0, 1), True), ((1, 2), False)))
        book.forget(0)
        self.assertEqual(book.told, (((1, 2), False),))
        self.assertIs(book.known((0, 1)), None)
        book.forget(0)
        self.assertEqual((book.told, book.known((1, 2))), ((), None))
        told_error(self, Refused, 0, book.forget, 0)

    def test_lots_of_any_values(self):
        book = Book(3)
        book.tell((0, 1), True)
        calls = [lambda lot: book.tell(lot, True), lambda lot: book.tell(lot, False), book.known, book.known_paper, lambda lot: book.paper_shows(lot, None),
                 lambda lot: book.fitting_board(lot, True), lambda lot: book.fitting_board(lot, False)]
        for call in calls:
            for value in any_values():
                if not isinstance(value, (list, tuple)) or len(value) == 0:
                    told_error(self, InvalidLot, -1, call, value)
            for lot, at in (((3,), 0), ((0, 0), 1), ([2, 1], 1), ((True,), 0), ((0, 1, 2, 3), 3), ((0, None), 1)):
                told_error(self, InvalidLot, at, call, lot)
        self.assertEqual(book.told, (((0, 1), True),))


class TestPapers(unittest.TestCase):
    def book(self):
        book = Book(4)
        for lot, tested in (((0, 1), True), ((1, 2), True), ((0, 3), False), ((2, 3), False)):
            book.tell(lot, tested)
        return book

    def test_of_both_kinds(self):
        book = self.book()
        steps = (("told", (0, 1)), ("told", (1, 2)), ("both", 0, 1))
        self.assertIs(book.paper_shows((0, 1, 2), ((0, 1, 2), steps)), True)
        against = (("told", (0, 1)), ("told", (0, 2, 3)), ("less", 1, 0))
        self.assertIs(book.paper_shows((0, 2, 3), ((2, 3), against)), False)
        self.assertIsNone(book.paper_shows((1, 2, 3), ((2, 3), against)))
        self.assertIsNone(book.paper_shows((0, 2, 3), ((0, 3), against)))
        # What the lot itself is told for counts against it alone.
        self.assertIsNone(book.paper_shows((0, 2, 3), ((0, 2, 3), (("told", (0, 2, 3)),))))
        self.assertIs(book.paper_shows((0, 3), ((0, 3), (("told", (0, 3)),))), False)
        self.assertIs(book.paper_shows((0, 1), ((0, 1), (("told", (0, 1)),))), True)
        self.assertIs(book.paper_shows((3,), ((3,), (("own", (3,)),))), True)
        self.assertIsNone(book.paper_shows((0, 2), ((0, 2), (("told", (0, 2)),))))

    def test_spoilt_papers(self):
        book = self.book()
        for lot in ((0, 1, 2), (0, 2, 3), (0, 3)):
            first, steps = book.known_paper(lot)
            self.assertIsNotNone(book.paper_shows(lot, (first, steps)))
            for value in ([first, steps], (list(first), steps), (first, list(steps)), (first, tuple(as_lists(steps))), (first, steps, steps), (first,),
                          (first, steps[:-1]), (first, steps + (None,)), ((1, 3), steps), (None, steps), (first, None), (first, ()), (steps, first),
                          (tuple(map(bool, first)), steps), first, None):
                self.assertIsNone(book.paper_shows(lot, value))
        for value in any_values():
            for lot in lots_of(4):
                self.assertIsNone(book.paper_shows(lot, value))

    def test_nothing_known(self):
        book = self.book()
        for lot in book.known_lots()[2]:
            self.assertIsNone(book.known_paper(lot))
        self.assertEqual([len(lots) for lots in Book(4).known_lots()], [5, 0, 10])
        self.assertEqual(Book(1).known_lots(), (((0,),), (), ()))
        self.assertEqual((Book(1).told_shape(), Book(3).told_shape()), (0, ("bare", (0, 1, 2))))


class TestFittingBoards(unittest.TestCase):
    def test_of_both_kinds(self):
        rng = seeded(2)
        seen = set()
        for _ in range(40):
            many = rng.randint(1, 4)
            book, told = Book(many), []
            for _ in range(rng.randint(0, 4)):
                lot, tested = rng.choice(lots_of(many)), rng.random() < 0.5
                if book.tell(lot, tested):
                    told.append((lot, tested))
            for lot in rng.sample(lots_of(many), min(5, 2 ** many - 1)):
                for tested in (True, False):
                    self.check_board(book, many, told, lot, tested)
                    seen.add((tested, bool(fitting(many, told + [(lot, tested)]))))
        self.assertEqual(len(seen), 4)

    def check_board(self, book, many, told, lot, tested):
        if not fitting(many, told + [(lot, tested)]):
            told_error(self, Refused, -1, book.fitting_board, lot, tested)
            return
        board = book.fitting_board(lot, tested)
        self.assertEqual(book.fitting_board(lot=list(lot), tested=tested), board)
        self.assertIs(is_fair(board), True)
        self.assertEqual(len(board), many)
        for each, right in told + [(lot, tested)]:
            self.assertIs(looks_one_test(board, each), right)

    def test_too_many_settings(self):
        book = Book(8)
        for tested in (True, False):
            told_error(self, InvalidSize, "settings", book.fitting_board, (0, 1), tested)
        told_error(self, Refused, -1, book.fitting_board, (0,), False)
        five = Book(5)
        five.tell((0, 1), True)
        self.assertEqual(len(five.fitting_board((1, 2), False)), 5)
        # A line of three parts is among those of five.
        told_error(self, InvalidSize, "settings", five.fitting_board, (1, 2), True)
        five.tell((1, 2), False)
        told_error(self, Refused, -1, five.fitting_board, (1, 2), True)
        four = Book(4)
        four.tell((0, 1), True)
        self.assertEqual(four.fitting_board((1, 2), True).many, 8)
        self.assertEqual(shape_board(four.told_shape()), four.fitting_board((0, 1), True))


class TestLimits(unittest.TestCase):
    def test_eight_parts(self):
        started = time.time()
        rng = seeded(3)
        for share in (0.1, 0.3, 0.9):
            book = Book(8)
            for _ in range(40):
                lot = tuple(sorted(rng.sample(range(8), rng.randint(2, 7))))
                book.tell(lot, rng.random() < share)
                answer = book.known(lot)
                self.assertIs(book.paper_shows(lot, book.known_paper(lot)), answer)
            lots = book.known_lots()
            self.assertEqual(sum(map(len, lots)), 255)
            self.assertEqual(list(lots[0]), inner_lots(book.told_shape()))
            for lot in lots[1][:20]:
                self.assertIs(book.paper_shows(lot, book.known_paper(lot)), False)
        full = Book(8)
        for lot in lots_of(8):
            self.assertIs(full.tell(lot, True), True)
        self.assertEqual((len(full.told), full.known_lots()[1:]), (255, ((), ())))
        self.assertLess(time.time() - started, 60)


if __name__ == "__main__":
    unittest.main()
