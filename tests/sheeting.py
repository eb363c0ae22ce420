"""Questions of every row of the table of sheets, for several tests."""

from oncetested.boards import Board
from oncetested.forms import Form, board_form
from oncetested.groups import Group
from oncetested.moves import led_form
from oncetested.nets import Net
from oncetested.pairs import Pairs
from oncetested.sums import Sums
from oncetested.told import Told
from shaping import BITS, FOUR, SIX
from support import cycle_rows, fair_board, latin, lots_of, odd_board, seeded, settings_of, sums_board

ODD, SUM = odd_board(), sums_board()
TWO = Board(2, (2, 2, 2), (0, 1, 0, 1, 0, 1, 1, 0))
SIXES = Group(SIX)
NOT_FAIR = Board(2, (2, 2), (0, 0, 1, 1))
FORM = Form(3, ((0, 1, 2), (0, 1, 2)), [("bare", (0, 1), (0, 1, 2, 1, 2, 0, 2, 0, 1))])
LONE = [((1, 0), 2), ((0, 1), 1)]


def flat(rows):
    return tuple(mark for row in rows for mark in row)


def odd_net():
    table = [x ^ y ^ z ^ int(max(x, y, z) < 2) for x, y, z in settings_of((4, 4, 4))]
    return Net(4, 5, [(table, (0, 2, 4)), (flat(BITS), (5, 1)), (flat(BITS), (6, 3))])


def cases_of():
    """Pairs, told forms and sums: some fit, some do not."""
    pairs = [Pairs(SIXES, 3, 3, ((0, 0, 1), (1, 0, 2), (1, 1, 3))), Pairs(SIXES, 2, 2, ((0, 0, 1), (1, 0, 2), (1, 1, 3), (0, 1, 5))),
             Pairs(Group(FOUR), 2, 3, ()), Pairs(SIXES, 2, 2, ((0, 0, 1), (0, 0, 2), (1, 1, 0)))]
    told = [Told(FORM, LONE), Told(FORM, LONE[:1]), Told(FORM, LONE + [((1, 1), 2)]), Told(FORM, ()), Told(board_form(SUM), [((1, 0, 0), 1), ((0, 0, 0), 0)])]
    sums = [Sums(Group(cycle_rows(3)), (2, 2), (((0, 0), 1), ((1, 0), 2), ((0, 1), 0))), Sums(Group(cycle_rows(3)), (2, 2), (((0, 0), 1), ((1, 0), 2))),
            Sums(Group(FOUR), (2, 3), (((0, 0), 1), ((1, 0), 2), ((0, 1), 0), ((1, 1), 2))), Sums(Group(BITS), (1,), ()),
            Sums(Group(cycle_rows(6)), (2, 2), (((0, 0), 1), ((0, 0), 4)))]
    return pairs, told, sums


def paired_questions():
    """Questions of all rows that have two kinds: pairs of the first kind and a question."""
    rng = seeded(1)
    found = []
    boards = [ODD, SUM, TWO, Board(3, (2, 3, 2), [rng.randrange(3) for _ in range(12)]), fair_board(rng, 3, 3)]
    for board in boards:
        for lot in lots_of(len(board)):
            found.append(("one-test", (board, lot)))
            for number in (0, 1, 2, 64):
                found.append(("enough", (board, lot, number)))
    for board in (TWO, Board(2, (2, 3, 2, 1), [rng.randrange(2) for _ in range(12)]), Board(2, (2, 2), (0, 1, 1, 0))):
        found.extend(("one block", (board, one, other)) for one in range(len(board)) for other in range(len(board)))
    for lots in (((0, 1), (1, 2)), ((0, 1, 2),), (), ((0, 3), (1, 3), (2, 3))):
        found.extend(("follows", (4, lots, lot)) for lot in lots_of(4))
    for net in (odd_net(), Net(3, 2, [((0, 1, 2, 1, 2, 0, 2, 0, 1), (1, 0))])):
        found.extend(("net one-test", (net, lot)) for lot in lots_of(net.parts))
    groups = [SIXES, Group(cycle_rows(6)), Group(FOUR), Group(BITS), Group(cycle_rows(5)), Group(((0,),))]
    found.extend(("matched", (one, other)) for one in groups for other in groups)
    found.extend(("group", (square,)) for square in (FOUR, SIX, latin(seeded(2), 5), latin(seeded(3), 6), ((0,),), latin(seeded(4), 4)))
    for tries in ((), ((0,),), ((2,), (0,)), ((1,), (1,), (3,)), ((0,), (1,), (2,), (3,))):
        found.extend(("settled", (ODD, lot, tries)) for lot in ((0, 1), (1, 2)))
    found.append(("settled", (SUM, (0, 2), ())))
    found.append(("settled", (SUM, (0, 2), ((),))))
    found.extend(("renewal", (board, (0, 1), (0, 1), v)) for board in (ODD, SUM) for v in settings_of((4, 4)))
    pairs, told, sums = cases_of()
    for each in pairs:
        found.append(("clash", (each,)))
        if each.case_ring() is None:
            found.extend(("sure", (each, a, b, mark)) for a in range(each.left) for b in range(each.right) for mark in range(each.group.size))
    for each in told:
        found.append(("clash", (each,)))
        if each.all_names():
            found.extend(("sure", (each, setting, mark)) for setting in settings_of(each.form.sizes)[:6] for mark in range(each.form.many))
    for each in sums:
        found.append(("clash", (each,)))
        if each.some_readings() is not None:
            found.extend(("sure", (each, setting, mark)) for setting in settings_of(each.sizes) for mark in range(each.group.size))
    return found


def single_questions():
    """Questions of the last row, with values that hold: triples."""
    form = board_form(ODD)
    other = led_form(form, 0, (1, 0, 2, 3))
    noes = ((((0,), (1,), (0, 0), (1, 0)),), (0, 0, 0, 1), ((0, 1), (1, 0)))
    renewal = ((1, 2, 3, 0), (3, 0, 1, 2))
    return [
        ("hull", (TWO, (0,), (0, 1)), noes),
        ("hull", (TWO, (2,), (2,)), ((), (0, 1), ((0, 0, 0, 1), (1, 1, 1, 0)))),
        ("renamed", (form, other), (((1, 0, 2, 3), (0, 1, 2, 3), (0, 1, 2, 3)), (0, 1, 2, 3))),
        ("parted", (form, other), (0, 0, 1)),
        ("mover", (SUM, 1), ((1, 2, 3, 0), (1, 2, 3, 0))),
        ("road", (SUM, ((0, 1), (1, 2)), (0, 0, 0), (1, 3, 0)), ((0, renewal),)),
        ("road", (SUM, (), (1, 1, 1), (1, 1, 1)), ()),
    ]
