"""Shapes for several tests, and boards of a tree, all made without the program's help."""

import itertools

from oncetested.boards import Board
from support import cycle_rows, latin, lots_of, paired_rows, permutation_rows, pick, rest, settings_of


def leaves(tree):
    return [tree] if isinstance(tree, int) else [leaf for child in tree[1] for leaf in leaves(child)]


def lot_of(*trees):
    return tuple(sorted(leaf for tree in trees for leaf in leaves(tree)))


def random_shape(rng, parts):
    """A shape of some parts, its children in order."""
    if len(parts) == 1:
        return parts[0]
    parts = rng.sample(parts, len(parts))
    cuts = sorted(rng.sample(range(1, len(parts)), rng.randint(1, min(len(parts), 6) - 1)))
    children = [random_shape(rng, parts[one:other]) for one, other in zip([0] + cuts, cuts + [len(parts)])]
    kind = rng.choice(("bare", "line", "free")) if len(children) > 2 else "bare"
    if kind != "line":
        children = sorted(children, key=lambda child: min(leaves(child)))
    elif min(leaves(children[0])) > min(leaves(children[-1])):
        children = children[::-1]
    return kind, tuple(children)


def places(tree):
    """The place of each inner lot of a shape: a list of pairs (lot, place)."""
    if isinstance(tree, int):
        return [((tree,), ((tree,), ()))]
    kind, children = tree
    found = [pair for child in children for pair in places(child)]
    numbers = range(len(children))
    if kind == "bare":
        rows = [tuple(numbers)]
    elif kind == "line":
        rows = [tuple(range(one, other + 1)) for one in numbers for other in numbers if one < other]
    else:
        rows = [row for many in range(2, len(children) + 1) for row in itertools.combinations(numbers, many)]
    return found + [(lot_of(*[children[number] for number in row]), (lot_of(tree), row)) for row in rows]


def knots(tree):
    if isinstance(tree, int):
        return []
    return [tree] + [knot for child in tree[1] for knot in knots(child)]


def inner_lots(shape):
    """The inner lots of a shape, ascending."""
    return sorted(lot for lot, _ in places(shape))


def blocks_of(parts):
    """All ways to lay parts into lots."""
    if not parts:
        yield []
        return
    first, others = parts[0], parts[1:]
    for many in range(len(others) + 1):
        for chosen in itertools.combinations(others, many):
            for more in blocks_of([part for part in others if part not in chosen]):
                yield [[first, *chosen]] + more


def all_shapes(parts):
    """All shapes of some parts."""
    parts = list(parts)
    if len(parts) == 1:
        return [parts[0]]
    found = []
    for blocks in blocks_of(parts):
        if len(blocks) > 1:
            for children in itertools.product(*[all_shapes(block) for block in blocks]):
                found.append(("bare", children))
                if len(children) > 2:
                    found.append(("free", children))
                    for order in itertools.permutations(children):
                        if min(leaves(order[0])) < min(leaves(order[-1])):
                            found.append(("line", order))
    return found


SIX = permutation_rows([(1, 2, 0), (1, 0, 2)])
SQUARE = permutation_rows([(1, 2, 3, 0), (2, 1, 0, 3)])
FOUR, BITS = cycle_rows(4), paired_rows(cycle_rows(2), cycle_rows(2))
EIGHT_BITS = paired_rows(BITS, cycle_rows(2))


def folded(rows, marks):
    """The product of marks in order."""
    done = marks[0]
    for mark in marks[1:]:
        done = rows[done][mark]
    return done


def odd_mark(marks):
    """The mark of a bare knot of three children or more, of four marks or eight."""
    done = int(max(marks) < 2)
    for mark in marks:
        done ^= mark
    return done


def tree_board(many, tree, tables):
    """The board of a tree: tables are rows by the kind of a knot; a bare knot of three or more children is odd."""
    def mark(place, setting):
        if isinstance(place, int):
            return setting[place]
        kind, children = place
        marks = [mark(child, setting) for child in children]
        if kind == "bare" and len(children) > 2:
            return odd_mark(marks)
        return folded(tables[kind], marks)
    sizes = (many,) * len(leaves(tree))
    return Board(many, sizes, [mark(tree, setting) for setting in settings_of(sizes)])


def rows_within(board, lot):
    """For each content of a lot its marks with all contents of the rest."""
    others = rest(len(board), lot)
    rows = {}
    for setting in settings_of(board.sizes):
        rows.setdefault(pick(setting, lot), {})[pick(setting, others)] = board(setting)
    return [tuple(rows[u][w] for w in sorted(rows[u])) for u in sorted(rows)]


def looks_one_test(board, lot):
    """Whether a lot is one-test: unlike rows have unlike marks everywhere."""
    rows = set(rows_within(board, lot))
    return all(len(set(column)) == len(rows) for column in zip(*rows))


def looked_lots(board):
    """All one-test lots, ascending."""
    return sorted(lot for lot in lots_of(len(board)) if looks_one_test(board, lot))


def kinds_of_boards(rng):
    """Fair boards with a shape that is known by hand: bare, free and line knots, one in the other."""
    square = latin(rng, 5)
    while square == tuple(zip(*square)):
        square = latin(rng, 5)
    other = {"bare": FOUR, "free": BITS}
    return [
        (tree_board(2, 0, {}), 0),
        (tree_board(4, ("bare", (0, 1)), other), ("bare", (0, 1))),
        (tree_board(4, ("bare", (0, 1, 2)), other), ("bare", (0, 1, 2))),
        (tree_board(4, ("bare", (0, 1, 2, 3)), other), ("bare", (0, 1, 2, 3))),
        (tree_board(4, ("free", (0, 1, 2, 3)), other), ("free", (0, 1, 2, 3))),
        (tree_board(4, ("free", (0, ("bare", (1, 3)), 2)), other), ("free", (0, ("bare", (1, 3)), 2))),
        (tree_board(4, ("bare", (("free", (0, 2, 3)), 1)), other), ("bare", (("free", (0, 2, 3)), 1))),
        (tree_board(4, ("free", (0, 1, ("bare", (2, 3, 4)))), other), ("free", (0, 1, ("bare", (2, 3, 4))))),
        (tree_board(4, ("bare", (("bare", (0, 1)), 2)), {"bare": FOUR}), ("free", (0, 1, 2))),
        (tree_board(5, ("bare", (("bare", (0, 2)), 1)), {"bare": cycle_rows(5)}), ("free", (0, 1, 2))),
        (tree_board(6, ("line", (0, 1, 2)), {"line": SIX}), ("line", (0, 1, 2))),
        (tree_board(6, ("line", (1, 0, 2)), {"line": SIX}), ("line", (1, 0, 2))),
        (tree_board(6, ("bare", (("bare", (0, 2)), 1)), {"bare": SIX}), ("line", (0, 2, 1))),
        (tree_board(6, ("line", (2, 0, 3, 1)), {"line": SIX}), ("line", (1, 3, 0, 2))),
        (tree_board(6, ("line", (0, ("bare", (1, 3)), 2)), {"line": SIX, "bare": cycle_rows(6)}), ("line", (0, ("bare", (1, 3)), 2))),
        (tree_board(6, ("bare", (("line", (0, 3, 1)), 2)), {"line": SIX, "bare": cycle_rows(6)}), ("bare", (("line", (0, 3, 1)), 2))),
        (tree_board(8, ("line", (0, 1, 2)), {"line": SQUARE}), ("line", (0, 1, 2))),
        (tree_board(8, ("free", (0, 1, 2)), {"free": EIGHT_BITS}), ("free", (0, 1, 2))),
    ]
