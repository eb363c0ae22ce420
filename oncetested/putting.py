"""Boards made of other boards: led, held, layered, put into one another, merged."""

from oncetested.boards import MOST_PARTS, MOST_SETTINGS, Board, lot_contents, lot_marks, lot_sizes, rest_of
from oncetested.errors import InvalidSize, Refused
from oncetested.values import product_of


def need_room(sizes):
    """The errors of a board with too many parts or settings."""
    if len(sizes) > MOST_PARTS:
        raise InvalidSize("parts")
    if product_of(sizes) > MOST_SETTINGS:
        raise InvalidSize("settings")


def plain_steps(board, part):
    """What each content of a part adds to the number of a setting."""
    return [board.steps[part] * content for content in range(board.sizes[part])]


def all_steps(board):
    """For each part what each content adds to the number of a setting."""
    return [plain_steps(board, part) for part in range(len(board))]


def stepped_marks(board, rows):
    """The marks at the settings whose numbers are the sums of a number of each row, ascending by places in the rows."""
    numbers = [0]
    for row in rows:
        numbers = [number + step for number in numbers for step in row]
    return [board.marks[number] for number in numbers]


def led_board(board, part, row):
    """The board in which a part's contents stand for those of a row."""
    sizes = board.sizes[:part] + (len(row),) + board.sizes[part + 1:]
    need_room(sizes)
    rows = all_steps(board)
    rows[part] = [board.steps[part] * content for content in row]
    return Board(board.many, sizes, stepped_marks(board, rows))


def marked_board(board, row, many=None):
    """The board in which mark m has become row[m]."""
    marks = [row[mark] for mark in board.marks]
    return Board(board.many if many is None else many, board.sizes, marks)


def turned_board(board, order):
    """The board whose part i is the part order[i]."""
    rows = [plain_steps(board, part) for part in order]
    return Board(board.many, lot_sizes(board, order), stepped_marks(board, rows))


def held_board(board, part, content):
    """The board without a part, which is held at a content."""
    if len(board) == 1:
        raise Refused(part)
    return held_parts(board, ((part, content),))


def held_parts(board, pairs):
    """The board without the parts of pairs (part, content), which are held so."""
    if len(pairs) == len(board):
        raise Refused(-1)
    rows = all_steps(board)
    for part, content in pairs:
        rows[part] = [board.steps[part] * content]
    left = rest_of(board, [part for part, content in pairs])
    return Board(board.many, lot_sizes(board, left), stepped_marks(board, rows))


def layered_marks(rows, sizes, place):
    """The marks of layers, each a row of marks by settings of these sizes, with their number as a part at a place."""
    block = product_of(sizes[place:])
    marks = []
    for start in range(0, product_of(sizes), block):
        for row in rows:
            marks.extend(row[start:start + block])
    return marks


def layered_board(boards, part):
    """The board with a new part at a place, whose content c brings boards[c]."""
    first = boards[0]
    for at, board in enumerate(boards):
        if board.many != first.many or board.sizes != first.sizes:
            raise Refused(at)
    sizes = first.sizes[:part] + (len(boards),) + first.sizes[part:]
    need_room(sizes)
    return Board(first.many, sizes, layered_marks([board.marks for board in boards], first.sizes, part))


def put_boards(outer, inners):
    """The board in which each part with a Board is replaced by the parts of this one."""
    for part, inner in enumerate(inners):
        if inner is not None and inner.many != outer.sizes[part]:
            raise Refused(part)
    sizes = ()
    for part, inner in enumerate(inners):
        sizes = sizes + ((outer.sizes[part],) if inner is None else inner.sizes)
    need_room(sizes)
    rows = all_steps(outer)
    for part, inner in enumerate(inners):
        if inner is not None:
            rows[part] = [outer.steps[part] * mark for mark in inner.marks]
    return Board(outer.many, sizes, stepped_marks(outer, rows))


def put_board(outer, part, inner):
    """The board in which one part is replaced by the parts of another board."""
    return put_boards(outer, [inner if place == part else None for place in range(len(outer))])


def tied_board(board, lot):
    """The board of two parts: the contents of a lot and of its rest, by their numbers."""
    sizes = (len(lot_contents(board, lot)), len(lot_contents(board, rest_of(board, lot))))
    marks = []
    for row in lot_marks(board, lot):
        marks.extend(row)
    return Board(board.many, sizes, marks)


def twin_lots(board, part):
    """All contents of a part in lots of twins, by the least."""
    lots = {}
    for content, row in enumerate(lot_marks(board, (part,))):
        lots.setdefault(row, []).append(content)
    return tuple([tuple(lot) for lot in lots.values()])


def merged_names(board):
    """For each part the number of each content's lot of twins."""
    names = []
    for part in range(len(board)):
        lots = twin_lots(board, part)
        row = []
        for content in range(board.sizes[part]):
            row.extend([number for number, lot in enumerate(lots) if content in lot])
        names.append(tuple(row))
    return tuple(names)


def merged_board(board):
    """The board with one content for each lot of twins."""
    rows = []
    for part in range(len(board)):
        rows.append([board.steps[part] * lot[0] for lot in twin_lots(board, part)])
    return Board(board.many, [len(row) for row in rows], stepped_marks(board, rows))
