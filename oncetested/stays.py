"""Changes counted in nets that are never laid out, and nets of one make held against one another."""

from oncetested.boards import need_lot, rest_of
from oncetested.errors import Refused


def joined_pairs(many, tables, wires):
    """All choices of a pair of marks for each wire: both places in the row's tables, how often, the pairs."""
    choices = [(0, 0, 1, ())]
    for wire in wires:
        choices = [
            (one * many + a, other * many + b, count * often, pairs + ((a, b),))
            for one, other, count, pairs in choices
            for (a, b), often in tables[wire].items()
        ]
    return choices


def pair_tables(one, other, leaves):
    """For each wire how often two nets of one make bring each pair of marks there."""
    tables = list(leaves)
    for number, (table, wires) in enumerate(one.rows):
        beside = other.rows[number][0]
        counts = {}
        for first, second, count, _ in joined_pairs(one.many, tables, wires):
            pair = (table[first], beside[second])
            counts[pair] = counts.get(pair, 0) + count
        tables.append(counts)
    return tables


def pairs_beneath(one, other, tables, pair):
    """For each part a pair of contents, of those that bring the last wire this pair of marks, or None."""
    if pair not in tables[-1]:
        return None
    wanted = [pair] * len(tables)
    for number in reversed(range(len(one.rows))):
        table, wires = one.rows[number]
        beside = other.rows[number][0]
        told = wanted[one.parts + number]
        for first, second, _, pairs in joined_pairs(one.many, tables, wires):
            if (table[first], beside[second]) == told:
                for at, wire in enumerate(wires):
                    wanted[wire] = pairs[at]
                break
    return wanted[:one.parts]


def alike_pairs(many):
    """The pairs of equal contents, each once."""
    return {(content, content): 1 for content in range(many)}


def change_tables(net, lot, u, v):
    """For each wire how often it brings each pair of marks with u and with v."""
    leaves = [alike_pairs(net.many) for _ in range(net.parts)]
    for part, one, other in zip(lot, u, v):
        leaves[part] = {(one, other): 1}
    return pair_tables(net, net, leaves)


def pair_counts(net, lot, u, v):
    """For each mark with u, for each mark with v, how many contents of the other parts bring both."""
    lot = need_lot(net, lot)
    counts = change_tables(net, lot, u, v)[-1]
    marks = list(range(net.many))
    return tuple([tuple([counts.get((a, b), 0) for b in marks]) for a in marks])


def pair_case(net, lot, u, v, a, b):
    """Some contents of the other parts with which u brings a and v brings b, or None."""
    lot = need_lot(net, lot)
    pairs = pairs_beneath(net, net, change_tables(net, lot, u, v), (a, b))
    if pairs is None:
        return None
    return tuple([pairs[part][0] for part in rest_of(net, lot)])


def stay_count(net, lot, u, v):
    """For how many contents of the other parts a change stays."""
    counts = pair_counts(net, lot, u, v)
    return sum([counts[mark][mark] for mark in range(net.many)])


def make_tables(one, other):
    """For each wire how often two nets bring each pair of marks; an error unless they are of one make."""
    wires = [[row[1] for row in net.rows] for net in (one, other)]
    if one.many != other.many or one.parts != other.parts or wires[0] != wires[1]:
        raise Refused(-1)
    return pair_tables(one, other, [alike_pairs(one.many) for _ in range(one.parts)])


def unlike_count(one, other):
    """The number of settings at which two nets of one make bring unlike marks."""
    counts = make_tables(one, other)[-1]
    return sum([counts[(a, b)] for a, b in counts if a != b])


def unlike_case(one, other):
    """Some setting at which two nets of one make bring unlike marks, or None."""
    tables = make_tables(one, other)
    for a, b in tables[-1]:
        if a != b:
            pairs = pairs_beneath(one, other, tables, (a, b))
            return tuple([content for content, _ in pairs])
    return None
