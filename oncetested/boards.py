"""Boards, their settings, and the lots of their parts."""

from oncetested.errors import InvalidBoard, InvalidLot, InvalidSetting, InvalidSize, InvalidText
from oncetested.values import is_below, is_between, is_figures, is_integer, is_sequence
from oncetested.values import product_of, read_number, wrong_place

MOST_PARTS = 8
MOST_SETTINGS = 20000


def all_settings(sizes):
    """All settings of parts of these sizes, ascending."""
    settings = [()]
    for size in sizes:
        settings = [setting + (content,) for setting in settings for content in range(size)]
    return tuple(settings)


def setting_number(sizes, setting):
    """The number of a setting among all."""
    number = 0
    for size, content in zip(sizes, setting):
        number = number * size + content
    return number


def nth_setting(sizes, number):
    """The setting of this number among all."""
    contents = []
    for size in reversed(sizes):
        contents.append(number % size)
        number = number // size
    return tuple(contents[::-1])


def is_setting(sizes, value):
    """Whether any value is a setting, as a tuple."""
    return isinstance(value, tuple) and wrong_place(sizes, value) is None


def need_setting(sizes, value):
    """Any value that is a setting, as a tuple, else an error."""
    at = wrong_place(sizes, value)
    if at is not None:
        raise InvalidSetting(at)
    return tuple(value)


def wrong_size(value):
    """The first place of any value that is no size, -1 for no sequence of 1 to 8, or None."""
    if not is_sequence(value) or not 1 <= len(value) <= MOST_PARTS:
        return -1
    for at, size in enumerate(value):
        if not is_integer(size) or size < 1:
            return at
    return None


def steps_of(sizes):
    """For each part the product of the sizes behind it."""
    return tuple([product_of(sizes[part + 1:]) for part in range(len(sizes))])


class Board:
    """Parts with contents, and a mark for each setting of them."""

    def __init__(self, many, sizes, marks):
        if not is_between(many, 2, 8):
            raise InvalidBoard("many")
        at = wrong_size(sizes)
        if at is not None:
            raise InvalidBoard(("sizes", at))
        count = product_of(sizes)
        if count > MOST_SETTINGS:
            raise InvalidSize("settings")
        at = wrong_place([many] * count, marks)
        if at is not None:
            raise InvalidBoard(("marks", at))
        self.many = many
        self.sizes = tuple(sizes)
        self.marks = tuple(marks)
        self.steps = steps_of(self.sizes)

    def __eq__(self, other):
        if not isinstance(other, Board):
            return False
        return self.many == other.many and self.sizes == other.sizes and self.marks == other.marks

    def __len__(self):
        return len(self.sizes)

    def __call__(self, setting):
        return self.marks[setting_number(self.sizes, need_setting(self.sizes, setting))]

    def text(self):
        """The board as rows of text."""
        last = self.sizes[-1]
        rows = [f"marks {self.many}", "parts " + " ".join([str(size) for size in self.sizes])]
        for start in range(0, len(self.marks), last):
            rows.append("".join([str(mark) for mark in self.marks[start:start + last]]))
        return "\n".join(rows)

    @staticmethod
    def read(text):
        """The board of such a text."""
        if not isinstance(text, str):
            raise InvalidText(-1)
        rows = text.split("\n")
        many = read_many(rows[0])
        # A row that is missing is read as an empty one: no right row is empty.
        sizes = read_sizes(rows[1] if len(rows) > 1 else "")
        if product_of(sizes) > MOST_SETTINGS:
            raise InvalidSize("settings")
        return Board(many, sizes, read_marks(rows, many, sizes))


def read_many(row):
    """The number of marks of row 0 of a text."""
    words = row.split(" ")
    many = read_number(words[-1], 1)
    if len(words) != 2 or words[0] != "marks" or not is_between(many, 2, 8):
        raise InvalidText(0)
    return many


def read_sizes(row):
    """The sizes of row 1 of a text."""
    words = row.split(" ")
    sizes = [read_number(word, 5) for word in words[1:]]
    if words[0] != "parts" or wrong_size(sizes) is not None:
        raise InvalidText(1)
    return sizes


def read_marks(rows, many, sizes):
    """The marks of all rows of a text behind row 1."""
    last = sizes[-1]
    count = product_of(sizes) // last
    marks = []
    for at in range(2, count + 2):
        row = rows[at] if at < len(rows) else ""
        figures = [int(sign) for sign in row] if is_figures(row) else []
        if wrong_place([many] * last, figures) is not None:
            raise InvalidText(at)
        marks.extend(figures)
    if len(rows) > count + 2:
        raise InvalidText(count + 2)
    return marks


def need_board(value):
    """Any value that is a Board, else an error."""
    if not isinstance(value, Board):
        raise InvalidBoard(-1)
    return value


def need_lot(board, value):
    """Any value that is a lot of a board's parts, as a tuple, else an error (of a net's parts, too)."""
    if not is_sequence(value) or len(value) == 0:
        raise InvalidLot(-1)
    least = 0
    for at, part in enumerate(value):
        if not is_below(part, len(board)) or part < least:
            raise InvalidLot(at)
        least = part + 1
    return tuple(value)


def rest_of(board, lot):
    """The parts that a lot has not."""
    return tuple([part for part in range(len(board)) if part not in lot])


def lot_sizes(board, lot):
    """The sizes of the parts of a lot."""
    return tuple([board.sizes[part] for part in lot])


def lot_contents(board, lot):
    """All contents of a lot, ascending."""
    return all_settings(lot_sizes(board, lot))


def lot_step(board, lot, contents):
    """What contents of a lot add to the number of a setting."""
    return sum([board.steps[part] * content for part, content in zip(lot, contents)])


def joined_setting(board, lot, inside, outside):
    """The setting with these contents of a lot and of its rest."""
    contents = list(range(len(board)))
    for part, content in zip(lot, inside):
        contents[part] = content
    for part, content in zip(rest_of(board, lot), outside):
        contents[part] = content
    return tuple(contents)


def parted_setting(board, lot, setting):
    """The contents of a lot and of its rest in a setting."""
    inside = tuple([setting[part] for part in lot])
    outside = tuple([setting[part] for part in rest_of(board, lot)])
    return inside, outside


def lot_marks(board, lot):
    """For each content of a lot the marks with all contents of the rest."""
    rest = rest_of(board, lot)
    inner = [lot_step(board, lot, contents) for contents in lot_contents(board, lot)]
    outer = [lot_step(board, rest, contents) for contents in lot_contents(board, rest)]
    return tuple([tuple([board.marks[one + other] for other in outer]) for one in inner])
