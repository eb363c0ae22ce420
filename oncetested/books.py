"""Books: what is known of the lots of a fair board that nobody shows, of which some are told."""

from itertools import combinations

from oncetested.boards import need_lot
from oncetested.errors import InvalidSize, Refused
from oncetested.facts import closed_shape, fact_holds, fact_paper, fewest_facts, shape_board
from oncetested.shapes import is_inner
from oncetested.values import is_below, is_between, same_value

MOST_PARTS = 8


class Book:
    """Lots of a board of many parts, told to be one-test or not."""

    def __init__(self, many):
        if not is_between(many, 1, MOST_PARTS):
            raise InvalidSize("parts")
        self.many = many
        self.told = ()
        self.parts = tuple(range(many))

    def tell(self, lot, tested):
        """Whether some fair board fits what was told and this; then it is kept."""
        lot = need_lot(self.parts, lot)
        if self.known(lot) == (not tested):
            return False
        if (lot, tested) not in self.told:
            self.told = self.told + ((lot, tested),)
        return True

    def forget(self, number):
        """Give up what was told as one of these numbers (any value)."""
        if not is_below(number, len(self.told)):
            raise Refused(0)
        self.told = self.told[:number] + self.told[number + 1:]

    def known(self, lot):
        """Whether a lot is one-test in all fair boards that fit, or in none; None if it is so in some."""
        return known_by(self, self.told_shape(), need_lot(self.parts, lot))

    def known_lots(self):
        """All lots of which it is known that they are one-test, that they are not, and the others."""
        lots = {True: [], False: [], None: []}
        shape = self.told_shape()
        for many in range(1, self.many + 1):
            for lot in combinations(list(self.parts), many):
                lots[known_by(self, shape, lot)].append(lot)
        return tuple(sorted(lots[True])), tuple(sorted(lots[False])), tuple(sorted(lots[None]))

    def told_shape(self):
        """The shape whose inner lots are those that are known to be one-test."""
        return closed_shape(self.many, told_lots(self, True))

    def known_paper(self, lot):
        """Some pair of a lot and steps that shows what is known of a lot, or None."""
        lot = need_lot(self.parts, lot)
        told = told_lots(self, True)
        steps = fact_paper(self.many, told, lot)
        if steps is not None:
            return lot, steps
        for other in told_lots(self, False):
            steps = fact_paper(self.many, told + [lot], other)
            if steps is not None:
                return other, steps
        return None

    def paper_shows(self, lot, value):
        """What any value shows of a lot as such a pair: True, False or None."""
        lot = need_lot(self.parts, lot)
        if not isinstance(value, tuple) or len(value) != 2:
            return None
        told = told_lots(self, True)
        if same_value(value[0], lot) and fact_holds(self.many, told, lot, value[1]):
            return True
        for other in told_lots(self, False):
            if same_value(value[0], other) and fact_holds(self.many, told + [lot], other, value[1]):
                return False
        return None

    def fitting_board(self, lot, tested):
        """Some fair board that fits, in which a lot is one-test or not."""
        lot = need_lot(self.parts, lot)
        if self.known(lot) == (not tested):
            raise Refused(-1)
        told = told_lots(self, True)
        return shape_board(closed_shape(self.many, told + [lot] if tested else told))


def told_lots(book, tested):
    """The lots that were told to be one-test, or not to be."""
    return [lot for lot, told in book.told if told == tested]


def known_by(book, shape, lot):
    """What is known of a lot, told the shape of those that follow."""
    if is_inner(shape, lot):
        return True
    wider = closed_shape(book.many, fewest_facts(shape) + (lot,))
    if any([is_inner(wider, other) for other in told_lots(book, False)]):
        return False
    return None
