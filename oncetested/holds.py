"""Parts of forms held at contents: shapes of the parts left, and the lots that are gained so."""

from oncetested.errors import InvalidSize, Refused
from oncetested.forms import form_shape
from oncetested.held import need_left_lot, need_pairs, parts_left, places_of
from oncetested.moves import left_form
from oncetested.shapes import count_lots, inner_lots, is_inner, is_leaf
from oncetested.trees import ordered_knot
from oncetested.values import is_below

MOST_LISTED = 200


def held_form(form, pairs):
    """The form of the parts left, the others being held."""
    return left_form(form, need_pairs(form.sizes, pairs))


def left_tree(tree, numbers):
    """The leaf or knot of the parts that have new numbers, with these; None if there is no such part."""
    if is_leaf(tree):
        return numbers.get(tree)
    kind, children = tree
    left = [left_tree(child, numbers) for child in children]
    left = [child for child in left if child is not None]
    if len(left) < 2:
        return left[0] if left else None
    return ordered_knot("bare" if len(left) == 2 else kind, left)


def left_shape(shape, lot):
    """The shape of the parts of a lot alone, numbered anew in order."""
    return left_tree(shape, {part: number for number, part in enumerate(lot)})


def count_gain(form, told, now):
    """How many one-test lots of the parts left are gained, told the parts held and the form of the others."""
    kept = left_shape(form_shape(form), parts_left(len(form), told))
    return count_lots(form_shape(now)) - count_lots(kept)


def gain_count(form, pairs):
    """How many one-test lots of the parts left are gained."""
    told = need_pairs(form.sizes, pairs)
    return count_gain(form, told, left_form(form, told))


def gaining_holds(form):
    """All (part, content, number of lots gained) of parts that gain some if they alone are held, ascending."""
    if len(form) == 1:
        return ()
    found = []
    for part in range(len(form)):
        for content in range(form.many):
            count = gain_count(form, ((part, content),))
            if count:
                found.append((part, content, count))
    return tuple(found)


class Holds:
    """A form of which parts are held, and let go again."""

    def __init__(self, form):
        self.form = form
        self.rows = ()
        self.pairs = ()
        self.left = tuple(range(len(form)))
        self.now = form

    def hold(self, part, content):
        """Hold a part that is left at a content (any values)."""
        if not is_below(part, len(self.form)) or part not in self.left or len(self.left) == 1:
            raise Refused(part)
        need_content(self.form, content)
        hold_anew(self, self.pairs + ((part, content),))

    def let_go(self, part):
        """Let a held part go (any value)."""
        need_held(self, part)
        hold_anew(self, without(self.pairs, part))

    def turn_to(self, part, content):
        """Hold a held part at another content, or at its own (any values)."""
        need_held(self, part)
        need_content(self.form, content)
        hold_anew(self, without(self.pairs, part) + ((part, content),))

    def take_back(self):
        """Hold again what was held ahead of the last deed that is not taken back."""
        if not self.rows:
            raise Refused(-1)
        show_pairs(self, self.rows[-1])
        self.rows = self.rows[:-1]

    def is_tested(self, lot):
        """Whether a lot of the parts left is one-test now (any value)."""
        lot = need_left_lot(self.left, lot)
        return is_inner(form_shape(self.now), places_of(self.left, lot))

    def count_now(self):
        """How many lots of the parts left are one-test now."""
        return count_lots(form_shape(self.now))

    def count_gained(self):
        """How many of the one-test lots of now are gained."""
        return count_gain(self.form, dict(self.pairs), self.now)

    def gained_now(self):
        """The gained one-test lots of now, ascending."""
        if self.count_now() > MOST_LISTED:
            raise InvalidSize("lots")
        kept = left_shape(form_shape(self.form), self.left)
        lots = [lot for lot in inner_lots(form_shape(self.now)) if not is_inner(kept, lot)]
        return tuple([tuple([self.left[place] for place in lot]) for lot in lots])


def need_content(form, content):
    """An error for any value that is no content."""
    if not is_below(content, form.many):
        raise InvalidSize("content")


def need_held(holds, part):
    """An error for any value that is no held part."""
    if not is_below(part, len(holds.form)) or part in holds.left:
        raise Refused(part)


def without(pairs, part):
    """Pairs but that of a part."""
    return tuple([pair for pair in pairs if pair[0] != part])


def show_pairs(holds, pairs):
    """Set what is told of the parts held and left."""
    told = dict(pairs)
    holds.pairs = tuple(sorted(pairs))
    holds.left = parts_left(len(holds.form), told)
    holds.now = left_form(holds.form, told)


def hold_anew(holds, pairs):
    """Hold these parts, and keep what was held ahead."""
    holds.rows = holds.rows + (holds.pairs,)
    show_pairs(holds, pairs)
