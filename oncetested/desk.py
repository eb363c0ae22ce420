"""A desk: commands as texts, to a live board and to a book."""

from oncetested.boards import Board
from oncetested.books import Book
from oncetested.enough import fewest_tries
from oncetested.errors import InvalidCommand
from oncetested.live import Live
from oncetested.readings import least_no
from oncetested.shapes import is_leaf
from oncetested.values import read_number

# In a command rows of a board's text stand behind one another, with this between them.
BETWEEN_ROWS = " ; "
ANSWERS = {True: "yes", False: "no", None: "open"}


class Desk:
    """A live board and a book, None at first, that commands begin, change and ask."""

    def __init__(self):
        self.live = None
        self.book = None

    def say(self, command):
        """Do a command (any value), and tell what is asked."""
        if not isinstance(command, str):
            raise InvalidCommand()
        word, blank, told = command.partition(" ")
        if word + blank not in ACTIONS:
            raise InvalidCommand()
        action = ACTIONS[word + blank]
        return action(self, told)


def need_live(desk):
    """The live board of a desk, else an error."""
    if desk.live is None:
        raise InvalidCommand()
    return desk.live


def need_book(desk):
    """The book of a desk, else an error."""
    if desk.book is None:
        raise InvalidCommand()
    return desk.book


def read_lot(told):
    """The numbers of a text of one or more with blanks between them, else an error."""
    lot = [read_number(word, 2) for word in told.split(" ")]
    if None in lot:
        raise InvalidCommand()
    return lot


def shape_text(tree):
    """A shape as a text."""
    if is_leaf(tree):
        return str(tree)
    kind, children = tree
    return kind + "(" + " ".join([shape_text(child) for child in children]) + ")"


def rows_text(rows):
    """Rows of contents as a text."""
    return ", ".join([" ".join([str(content) for content in row]) if row else "any" for row in rows])


def tell_live(live):
    """The shape of a live board as a text."""
    return shape_text(live.now_shape())


def begin_live(desk, told):
    """Begin a live board, and tell its shape."""
    live = Live(Board.read(told.replace(BETWEEN_ROWS, "\n")))
    desk.live = live
    return tell_live(live)


def do_deed(desk, told):
    """Do a deed, and tell the shape."""
    live = need_live(desk)
    live.deed(told)
    return tell_live(live)


def undo_deed(desk, told):
    """Take a deed back, and tell the shape."""
    live = need_live(desk)
    live.undo()
    return tell_live(live)


def redo_deed(desk, told):
    """Do a deed again, and tell the shape."""
    live = need_live(desk)
    live.redo()
    return tell_live(live)


def tell_test(desk, told):
    """Tell whether a lot is one-test, or its least no."""
    live = need_live(desk)
    no = least_no(live.board, read_lot(told))
    return "yes" if no is None else "no " + rows_text(no)


def tell_tries(desk, told):
    """Tell the fewest tries of a lot."""
    live = need_live(desk)
    return rows_text(fewest_tries(live.board, read_lot(told)))


def tell_text(desk, told):
    """Tell the text of the live board."""
    live = need_live(desk)
    return live.board.text().replace("\n", BETWEEN_ROWS)


def begin_book(desk, told):
    """Begin a book, and tell the shape of what is known."""
    many = read_number(told, 1)
    if many is None:
        raise InvalidCommand()
    desk.book = Book(many)
    return tell_facts(desk, told)


def tell_facts(desk, told):
    """Tell the shape of what is known."""
    book = need_book(desk)
    return shape_text(book.told_shape())


def tell_book(desk, told):
    """Tell the book whether a lot is one-test."""
    book = need_book(desk)
    lot, _, answer = told.rpartition(" ")
    if answer not in ("yes", "no"):
        raise InvalidCommand()
    return "kept" if book.tell(read_lot(lot), answer == "yes") else "clash"


def ask_book(desk, told):
    """Tell what is known of a lot."""
    book = need_book(desk)
    return ANSWERS[book.known(read_lot(told))]


# Commands by their words; a blank stands behind those that have more than a word.
ACTIONS = {
    "board ": begin_live,
    "do ": do_deed,
    "undo": undo_deed,
    "redo": redo_deed,
    "book ": begin_book,
    "facts": tell_facts,
    "test ": tell_test,
    "tries ": tell_tries,
    "tell ": tell_book,
    "known ": ask_book,
    "text": tell_text,
}
