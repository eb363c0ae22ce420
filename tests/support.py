"""What several tests share: values of every kind, boards, groups and squares made without the program's help."""

import itertools
import random

from oncetested.boards import Board
from oncetested.groups import Group


def deep(value, depth):
    """A value nested so deep."""
    for _ in range(depth):
        value = (value,)
    return value


def any_values():
    """Values of every kind that a function described for any value may get."""
    board = Board(2, (2,), (0, 1))
    group = Group(((0, 1), (1, 0)))
    return [
        None, True, False, -1, 0, 1, 2, 3, 7, 8, 9, 200, 10 ** 30, -10 ** 30, "", "a", "yes", "no", "free", "0", "01",
        "marks 2", "size", "twice", "\n", (), [], (0,), [0], (1,), (True,), [False], (None,), ("",), ("size", True),
        ("size", 0), ["size", 0], ("twice", 0, (0, 0), 1), (0, 1), [0, 1], (1, 0), (0, 0), (0, 1, 2), (True, False),
        ((0,), (1,)), [[0], [1]], ((0, 1), (1, 0)), ((), ()), ((), (), (), ()), ((0,), (1,), (0,), (1,)),
        ("yes", (0,), ((0,),)), ("no", (0,), (1,), (0,), (1,)), ("free", (0, 1, 2)), ("bare", [0, 1]), (1, (0,)),
        deep(0, 12), deep(None, 11), [[[[[[[[[[[[0]]]]]]]]]]]], board, group, (board,), [group], (board, group), (0, board),
        ((board, board), (group, group)),
    ]


def as_lists(value):
    """A value with lists for tuples, within too."""
    if isinstance(value, (list, tuple)):
        return [as_lists(part) for part in value]
    return value


def has_lists(value):
    """Whether there is a list, within too."""
    return isinstance(value, list) or isinstance(value, tuple) and any(has_lists(part) for part in value)


def settings_of(sizes):
    """All settings, ascending."""
    return list(itertools.product(*[range(size) for size in sizes]))


def lots_of(parts):
    """All lots of parts, shorter ones first."""
    return [lot for many in range(1, parts + 1) for lot in itertools.combinations(range(parts), many)]


def pick(setting, lot):
    """The contents of a lot."""
    return tuple(setting[part] for part in lot)


def rest(parts, lot):
    """The other parts."""
    return tuple(part for part in range(parts) if part not in lot)


def table_board(many, parts, mark):
    """The board whose marks a function tells."""
    sizes = (many,) * parts
    return Board(many, sizes, [mark(*setting) for setting in settings_of(sizes)])


def sums_board():
    return table_board(4, 3, lambda x, y, z: (x + y + z) % 4)


def odd_board():
    return table_board(4, 3, lambda x, y, z: x ^ y ^ z ^ int(max(x, y, z) < 2))


def random_board(rng, most=30):
    """A board of few settings that is seldom fair."""
    many = rng.randint(2, 4)
    sizes = [rng.randint(1, 4)]
    while len(sizes) < 4 and rng.random() < 0.8:
        size = rng.randint(1, 3)
        if len(settings_of(sizes)) * size <= most:
            sizes.append(size)
    return Board(many, sizes, [rng.randrange(many) for _ in settings_of(sizes)])


def latin(rng, size):
    """A square with every number once in each row and column."""
    while True:
        rows = []
        for _ in range(size):
            columns = [[mark for mark in range(size) if all(row[y] != mark for row in rows)] for y in range(size)]
            row = filled_row(rng, columns, [])
            if row is None:
                break
            rows.append(tuple(row))
        if len(rows) == size:
            return tuple(rows)


def filled_row(rng, columns, row):
    if len(row) == len(columns):
        return row
    choices = [mark for mark in columns[len(row)] if mark not in row]
    rng.shuffle(choices)
    for mark in choices:
        found = filled_row(rng, columns, row + [mark])
        if found is not None:
            return found
    return None


def fair_marks(rng, many, parts):
    """A function that tells the marks of a fair board, made of random squares in a random tree."""
    if len(parts) == 1:
        row = rng.sample(range(many), many)
        return lambda setting: row[setting[parts[0]]]
    parts = rng.sample(parts, len(parts))
    cut = rng.randint(1, len(parts) - 1)
    one = fair_marks(rng, many, parts[:cut])
    other = fair_marks(rng, many, parts[cut:])
    square = latin(rng, many)
    return lambda setting: square[one(setting)][other(setting)]


def fair_board(rng, many, parts):
    """A fair board."""
    mark = fair_marks(rng, many, list(range(parts)))
    sizes = (many,) * parts
    return Board(many, sizes, [mark(setting) for setting in settings_of(sizes)])


def is_one_test(board, lot):
    """Whether a lot is one-test, by all looks."""
    looks = {}
    for setting in settings_of(board.sizes):
        looks[pick(setting, lot), pick(setting, rest(len(board), lot))] = board(setting)
    inner = sorted({u for u, _ in looks})
    outer = sorted({w for _, w in looks})
    for u in inner:
        for v in inner:
            stays = {looks[u, w] == looks[v, w] for w in outer}
            if len(stays) > 1:
                return False
    return True


def permutation_rows(makers):
    """The table of the group that permutations make, numbered in ascending order."""
    makers = [tuple(maker) for maker in makers]
    found = [tuple(range(len(makers[0])))]
    for done in found:
        for maker in makers:
            further = tuple(maker[x] for x in done)
            if further not in found:
                found.append(further)
    found = sorted(found)
    return tuple(tuple(found.index(tuple(second[x] for x in first)) for second in found) for first in found)


def cycle_rows(size):
    return tuple(tuple((x + y) % size for y in range(size)) for x in range(size))


def paired_rows(one, other):
    """The table of pairs of elements of two groups."""
    size = len(other)
    places = [(x, y) for x in range(len(one)) for y in range(size)]
    return tuple(tuple(one[a][c] * size + other[b][d] for c, d in places) for a, b in places)


def quaternion_rows():
    return permutation_rows([(1, 2, 3, 0, 5, 6, 7, 4), (4, 7, 6, 5, 2, 1, 0, 3)])


def all_group_rows():
    """A table of each group of at most 12 elements, up to names, by its size."""
    two, three = cycle_rows(2), cycle_rows(3)
    rows = [cycle_rows(size) for size in range(1, 13)]
    rows.extend([paired_rows(two, two), paired_rows(two, cycle_rows(4)), paired_rows(two, paired_rows(two, two))])
    rows.extend([paired_rows(three, three), paired_rows(two, cycle_rows(6))])
    rows.extend(permutation_rows(makers) for makers in (
        [(1, 2, 0), (1, 0, 2)],
        [(1, 2, 3, 0), (2, 1, 0, 3)],
        [(1, 2, 3, 4, 0), (0, 4, 3, 2, 1)],
        [(1, 2, 3, 4, 5, 0), (0, 5, 4, 3, 2, 1)],
        [(1, 2, 0, 3), (1, 0, 3, 2)],
        [(1, 2, 0, 3, 4, 5, 6), (1, 0, 2, 4, 5, 6, 3)],
    ))
    rows.append(quaternion_rows())
    return sorted(rows, key=len)


def named_table(rows, names):
    """A table with other names of its elements."""
    table = {}
    for x, y in itertools.product(range(len(rows)), repeat=2):
        table[names[x], names[y]] = names[rows[x][y]]
    return tuple(tuple(table[x, y] for y in range(len(rows))) for x in range(len(rows)))


def mixed_group(rng, rows):
    """A group with its elements renamed."""
    return Group(named_table(rows, rng.sample(range(len(rows)), len(rows))))


def seeded(number):
    return random.Random(number)


def told_error(test, error, at, call, *values, **named):
    """The call raises just this error, with this argument."""
    with test.assertRaises(error) as caught:
        call(*values, **named)
    wrong = caught.exception
    test.assertIs(type(wrong), error)
    told = wrong.word if hasattr(wrong, "word") else wrong.at
    test.assertEqual(told, at)
    test.assertIs(type(told), type(at))
