"""[96]: a desk, each command right and spoilt, errors with nothing changed, shapes as texts."""

import time
import unittest

from oncetested.boards import Board
from oncetested.books import Book
from oncetested.desk import Desk
from oncetested.enough import fewest_tries
from oncetested.errors import InvalidCommand, InvalidLot, InvalidSize, InvalidText, Refused
from oncetested.live import Live
from oncetested.readings import least_no
from oncetested.trees import shape_of
from shaping import BITS, FOUR, SIX, kinds_of_boards, tree_board
from support import any_values, fair_board, lots_of, odd_board, seeded, sums_board, told_error


def shape_text(tree):
    if isinstance(tree, int):
        return str(tree)
    return f"{tree[0]}({' '.join(shape_text(child) for child in tree[1])})"


def row_text(row):
    return " ".join(str(content) for content in row) or "any"


def begun(board):
    return "board " + board.text().replace("\n", " ; ")


class TestLive(unittest.TestCase):
    def test_boards_and_shapes(self):
        for board, shape in kinds_of_boards(seeded(1)):
            desk = Desk()
            self.assertIsNone(desk.live)
            self.assertEqual(desk.say(command=begun(board)), shape_text(shape))
            self.assertIsInstance(desk.live, Live)
            self.assertEqual(desk.live.board, board)
            self.assertIsNone(desk.book)
            self.assertEqual(desk.say("text"), board.text().replace("\n", " ; "))
            # Newlines may stand, too.
            self.assertEqual(desk.say("board " + board.text()), shape_text(shape))
            self.assertEqual(desk.say("board " + board.text().replace("\n", " ; ", 1)), shape_text(shape))

    def test_knots_in_one_another(self):
        tree = ("free", (0, ("bare", (1, 2)), 3))
        self.assertEqual(Desk().say(begun(tree_board(4, tree, {"free": BITS, "bare": FOUR}))), "free(0 bare(1 2) 3)")
        tree = ("bare", (("line", (0, 3, 1)), 2))
        six = tuple(tuple((x + y) % 6 for y in range(6)) for x in range(6))
        self.assertEqual(Desk().say(begun(tree_board(6, tree, {"line": SIX, "bare": six}))), "bare(line(0 3 1) 2)")
        self.assertEqual(Desk().say("board marks 2 ; parts 2 ; 10"), "0")

    def test_deeds(self):
        desk = Desk()
        self.assertEqual(desk.say(begun(odd_board())), "bare(0 1 2)")
        live = desk.live
        self.assertEqual(desk.say("do hold 0 2"), "bare(0 1)")
        self.assertEqual(desk.say("do free 0"), "bare(0 1 2)")
        self.assertEqual(desk.say("undo"), "bare(0 1)")
        self.assertEqual(desk.say("text"), "marks 4 ; parts 4 4 ; 2301 ; 3210 ; 0123 ; 1032")
        self.assertEqual(desk.say("redo"), "bare(0 1 2)")
        self.assertIs(desk.live, live)
        self.assertEqual(live.deeds, ("hold 0 2", "free 0"))
        told_error(self, Refused, 0, desk.say, "redo")
        told_error(self, Refused, 0, desk.say, "do put 0 0")
        told_error(self, Refused, 0, desk.say, "do set 9 0")
        with self.assertRaises(InvalidCommand):
            desk.say("do jump")
        self.assertEqual(live.deeds, ("hold 0 2", "free 0"))
        for _ in range(2):
            desk.say("undo")
        told_error(self, Refused, 0, desk.say, "undo")
        # The shape has the numbers of the parts of now, not their labels.
        desk.say("do hold 1 0")
        self.assertEqual((desk.live.labels, desk.say("undo")), ((0, 2), "bare(0 1 2)"))

    def test_lots(self):
        rng = seeded(2)
        answers = set()
        for board in [board for board, _ in kinds_of_boards(rng) if len(board.marks) <= 256] + [fair_board(rng, 3, 4), fair_board(rng, 2, 5)]:
            desk = Desk()
            desk.say(begun(board))
            for lot in lots_of(len(board)):
                words = " ".join(str(part) for part in lot)
                no = least_no(board, lot)
                told = "yes" if no is None else "no " + ", ".join(row_text(row) for row in no)
                self.assertEqual(desk.say("test " + words), told)
                self.assertEqual(desk.say("tries " + words), ", ".join(row_text(row) for row in fewest_tries(board, lot)))
                answers.add(no is None)
        self.assertEqual(answers, {True, False})
        desk.say(begun(odd_board()))
        self.assertEqual((desk.say("test 0 1"), desk.say("test 2"), desk.say("tries 0 1 2"), desk.say("tries 0 1")),
                         ("no 0 0, 2 2, 2, 0", "yes", "any", "0, 2"))

    def test_errors_of_lots(self):
        desk = Desk()
        desk.say(begun(sums_board()))
        for word in ("test ", "tries "):
            for lot, at in (("3", 0), ("0 0", 1), ("1 0", 1), ("0 1 2 3", 3), ("10", 0), ("99", 0)):
                told_error(self, InvalidLot, at, desk.say, word + lot)
        desk.say("board marks 2 ; parts 2 2 2 2 2 2 2 2 ; " + " ; ".join("01" if bin(at).count("1") % 2 else "10" for at in range(128)))
        self.assertEqual(desk.say("test 7"), "yes")

    def test_boards_that_are_none(self):
        desk = Desk()
        desk.say(begun(odd_board()))
        live, told = desk.live, desk.say("text")
        for text, at in (("marks 9 ; parts 2 ; 01", 0), ("marks 2", 1), ("marks 2 ; parts 2 2 ; 01", 3), ("marks 2 ; parts 2 ; 01 ; 01", 3), ("marks 2;parts 2;01", 0),
                         ("marks 2 ;  parts 2 ; 01", 1), ("marks 2 ; parts 2 ; 0", 2), (" marks 2 ; parts 2 ; 01", 0), ("x", 0)):
            told_error(self, InvalidText, at, desk.say, "board " + text)
        told_error(self, InvalidSize, "settings", desk.say, "board marks 2 ; parts 200 200")
        told_error(self, Refused, ("twice", 0, (0,), 1), desk.say, "board marks 2 ; parts 2 ; 00")
        told_error(self, Refused, ("size", 0), desk.say, "board marks 2 ; parts 3 ; 010")
        self.assertIs(desk.live, live)
        self.assertEqual(desk.say("text"), told)


class TestBooks(unittest.TestCase):
    def test_books(self):
        desk = Desk()
        self.assertEqual(desk.say("book 4"), "bare(0 1 2 3)")
        self.assertIsInstance(desk.book, Book)
        self.assertIsNone(desk.live)
        self.assertEqual([desk.say(command) for command in ("tell 0 1 yes", "tell 1 2 yes", "tell 0 3 no", "tell 0 2 3 yes", "tell 0 1 2 no")],
                         ["kept", "kept", "kept", "clash", "clash"])
        self.assertEqual([desk.say("known " + lot) for lot in ("0 1 2", "0 2 3", "0 2", "3")], ["yes", "no", "open", "yes"])
        self.assertEqual(desk.say("facts"), "bare(line(0 1 2) 3)")
        self.assertEqual(desk.book.told, (((0, 1), True), ((1, 2), True), ((0, 3), False)))
        self.assertEqual(desk.say("book 1"), "0")
        self.assertEqual(desk.book.told, ())
        self.assertEqual(desk.say("known 0"), "yes")

    def test_errors(self):
        desk = Desk()
        desk.say("book 4")
        desk.say("tell 0 1 yes")
        book = desk.book
        for number in ("0", "9"):
            told_error(self, InvalidSize, "parts", desk.say, "book " + number)
        for command in ("known 4", "tell 4 yes", "tell 12 no"):
            told_error(self, InvalidLot, 0, desk.say, command)
        for command in ("known 0 0", "tell 1 1 yes", "tell 2 1 no"):
            told_error(self, InvalidLot, 1, desk.say, command)
        self.assertIs(desk.book, book)
        self.assertEqual(book.told, (((0, 1), True),))

    def test_a_live_board_and_a_book_apart(self):
        desk, other = Desk(), Desk()
        desk.say("book 3")
        desk.say(begun(sums_board()))
        book, live = desk.book, desk.live
        desk.say("tell 0 1 yes")
        desk.say("do hold 0 0")
        self.assertEqual((desk.say("facts"), desk.say("undo")), ("bare(bare(0 1) 2)", "free(0 1 2)"))
        self.assertIs(desk.book, book)
        self.assertIs(desk.live, live)
        self.assertEqual((other.live, other.book), (None, None))
        for call in (iter, len):
            with self.assertRaises(TypeError):
                call(desk)


class TestCommands(unittest.TestCase):
    right = ["do hold 0 1", "undo", "redo", "text", "facts", "test 0 1", "tries 0", "tell 0 1 yes", "tell 2 no", "known 1 2"]

    def test_no_live_board_or_book(self):
        desk = Desk()
        for command in self.right:
            with self.assertRaises(InvalidCommand):
                desk.say(command)
        desk.say("book 3")
        for command in ("do hold 0 1", "undo", "redo", "text", "test 0 1", "test 9", "tries 0"):
            with self.assertRaises(InvalidCommand):
                desk.say(command)
        other = Desk()
        other.say(begun(sums_board()))
        for command in ("facts", "tell 0 1 yes", "known 1 2", "known 9"):
            with self.assertRaises(InvalidCommand):
                other.say(command)

    def test_spoilt_commands(self):
        desk = Desk()
        desk.say(begun(sums_board()))
        desk.say("book 3")
        wrong = ["", " ", "board", "do", "do ", "book", "book ", "book  3", "book 03", "book 12", "book x", "book 3 ", "book -1", "facts ", "facts 1", " facts", "Facts",
                 "undo ", "undo 1", "redo ", "redo 0", "test", "test ", "test 0  1", "test 0 1 ", " test 0", "test 00", "test 0 01", "test 100", "test 0,1", "test a", "test -1",
                 "tries", "tries ", "tries 0 1 ", "tries  0", "tries 007", "tell", "tell ", "tell yes", "tell  yes", "tell 0", "tell 0 1", "tell 0 1 maybe", "tell 0 1 yes ",
                 "tell 0  1 yes", "tell 0 1  yes", "tell 00 yes", "tell 0 1 Yes", "tell 0 1yes", "tell 100 yes", "known", "known ", "known 0 ", "known 00", "known x", "known 123",
                 "text ", "text 1", " text", "text\n", "shape", "boards", "test 0\n1", "test\t0", "do hold 0", "do hold  0 1", "do hold 0 1 ", "do  hold 0 1", "do hold 00 1",
                 "board\nmarks 2 ; parts 2 ; 01", "test 0 1;", "test +1", "test 1_0"]
        before = (desk.live, desk.book, desk.say("text"), desk.say("facts"))
        for command in wrong + [value for value in any_values() if value not in ("", "0")]:
            with self.assertRaises(InvalidCommand, msg=repr(command)):
                desk.say(command)
        self.assertEqual((desk.live, desk.book, desk.say("text"), desk.say("facts")), before)

    def test_texts_come_back(self):
        desk = Desk()
        desk.say(begun(sums_board()))
        desk.say("book 3")
        for command in self.right:
            self.assertIsInstance(desk.say(command), str)
            self.assertNotIn("\n", desk.say("text"))


class TestLimits(unittest.TestCase):
    def test_six_marks(self):
        started = time.time()
        rng = seeded(3)
        for many, parts in ((6, 3), (4, 4), (5, 3), (2, 8)):
            board = fair_board(rng, many, parts)
            desk = Desk()
            self.assertEqual(desk.say(begun(board)), shape_text(shape_of(board)))
            for lot in rng.sample(lots_of(parts), 5):
                words = " ".join(str(part) for part in lot)
                desk.say("test " + words)
            desk.say("tries " + " ".join(str(part) for part in range(2, parts)))
            desk.say("do hold 1 1")
            desk.say("tries 0")
            self.assertEqual(Board.read(desk.say("text").replace(" ; ", "\n")), desk.live.board)
        self.assertLess(time.time() - started, 60)


if __name__ == "__main__":
    unittest.main()
