"""Tries: contents of the parts that count for a lot, and what they leave unnoticed."""

from oncetested.boards import lot_contents, lot_marks, lot_sizes, lot_step, need_lot, rest_of, setting_number, steps_of
from oncetested.errors import InvalidLot, InvalidSize, InvalidTests
from oncetested.looks import differing_places, is_no, need_contents
from oncetested.readings import first_no
from oncetested.trades import line_numbers
from oncetested.values import is_below, is_sequence, product_of, wrong_place

MOST_TRIES = 64


def first_numbers(things):
    """The numbers of things, from 0 on as they first come."""
    numbers = {}
    for thing in things:
        numbers.setdefault(thing, len(numbers))
    return tuple([numbers[thing] for thing in things])


def content_kinds(board, lot):
    """For each content of a lot the number of its kind."""
    return first_numbers(lot_marks(board, need_lot(board, lot)))


def counts_for(sizes, alike, at):
    """Whether some contents of the rest that differ in this place alone are unlike by these numbers."""
    steps = steps_of(sizes)
    for number, kind in enumerate(alike):
        if any([alike[other] != kind for other in line_numbers(sizes, steps, number, at)]):
            return True
    return False


def counting_parts(board, lot):
    """The parts outside a lot that count for it, ascending."""
    lot = need_lot(board, lot)
    rest = rest_of(board, lot)
    sizes = lot_sizes(board, rest)
    rows = lot_marks(board, lot)
    # With contents of the rest that part the lot's contents in one way, the same changes stay.
    alike = first_numbers([first_numbers(column) for column in zip(*rows)])
    return tuple([part for at, part in enumerate(rest) if counts_for(sizes, alike, at)])


def need_outside(board, lot, part):
    """A lot as a tuple; an error for any value that is no part outside."""
    lot = need_lot(board, lot)
    if not is_below(part, len(board)) or part in lot:
        raise InvalidLot(part)
    return lot


def counting_paper(board, lot, part):
    """The least no that shows that a part counts for a lot, with the fewest changed parts, or None."""
    lot = need_outside(board, lot, part)
    return first_no(board, lot, (part,))


def counting_holds(board, lot, part, value):
    """Whether any value is a no that shows that a part counts for a lot."""
    lot = need_outside(board, lot, part)
    if not is_no(board, lot, value):
        return False
    return differing_places(value[2], value[3]) == (rest_of(board, lot).index(part),)


def need_few_tries(board, lot):
    """A lot as a tuple, and the parts that count for it; an error for more than 64 tries."""
    lot = need_lot(board, lot)
    parts = counting_parts(board, lot)
    if product_of(lot_sizes(board, parts)) > MOST_TRIES:
        raise InvalidSize("tries")
    return lot, parts


def tried_marks(board, lot, parts):
    """For each content of a lot its marks at all tries."""
    # What the parts that do not count are set to tells nothing more, so they are left at 0.
    places = [lot_step(board, parts, contents) for contents in lot_contents(board, parts)]
    inner = [lot_step(board, lot, contents) for contents in lot_contents(board, lot)]
    return [tuple([board.marks[start + place] for place in places]) for start in inner]


def all_tries(board, lot):
    """All tries of a lot, ascending."""
    _, parts = need_few_tries(board, lot)
    return lot_contents(board, parts)


def noticed_tries(board, lot, one, other):
    """The tries that notice the change of one content into the other, ascending."""
    lot, parts = need_few_tries(board, lot)
    one = need_contents(board, lot, one, "one")
    other = need_contents(board, lot, other, "other")
    rows = tried_marks(board, lot, parts)
    contents = lot_contents(board, lot)
    places = differing_places(rows[contents.index(one)], rows[contents.index(other)])
    tries = lot_contents(board, parts)
    return tuple([tries[at] for at in places])


def tries_places(sizes, tries):
    """The numbers of tries among all; an error for any value that is no sequence of tries."""
    if not is_sequence(tries):
        raise InvalidTests(-1)
    places = []
    for at, contents in enumerate(tries):
        if wrong_place(sizes, contents) is not None:
            raise InvalidTests(at)
        places.append(setting_number(sizes, contents))
    return places


def first_unnoticed(rows, places):
    """The first two rows that are unlike but not at any of some places, and the first place where they are, or None."""
    firsts = {}
    found = []
    for number, row in enumerate(rows):
        shown = tuple([row[place] for place in places])
        first = firsts.setdefault(shown, number)
        if row != rows[first]:
            found.append((first, number))
    if not found:
        return None
    one, other = min(found)
    return one, other, differing_places(rows[one], rows[other])[0]


def unnoticed_change(board, lot, tries):
    """The least change that stays at some tries and not at all, and the least try that notices it, or None."""
    lot, parts = need_few_tries(board, lot)
    places = tries_places(lot_sizes(board, parts), tries)
    found = first_unnoticed(tried_marks(board, lot, parts), places)
    if found is None:
        return None
    one, other, at = found
    contents = lot_contents(board, lot)
    return contents[one], contents[other], lot_contents(board, parts)[at]
