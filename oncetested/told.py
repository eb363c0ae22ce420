"""Told cases of a fair board of which the knots of its form are known, and not the names."""

from itertools import permutations
from math import factorial

from oncetested.boards import is_setting, need_setting
from oncetested.errors import InvalidCases, InvalidForm, InvalidSize, Refused
from oncetested.forms import Form, knot_mark
from oncetested.values import is_below, is_permutation, is_sequence, product_of

MOST_NAMES = 1500


class Told:
    """A form whose own names do not count, and cases: pairs of a setting and its mark."""

    def __init__(self, form, cases):
        if not isinstance(form, Form):
            raise InvalidForm(-1)
        if not is_sequence(cases):
            raise InvalidCases(-1)
        for at, case in enumerate(cases):
            if not is_form_case(form, case):
                raise InvalidCases(at)
        lone = lone_marks(cases)
        if product_of([factorial(len(left_contents(form, lone, part))) for part in range(len(form))]) > MOST_NAMES:
            raise InvalidSize("names")
        self.form = form
        self.cases = tuple(cases)
        self.fitting = fitting_names(form, self.cases, lone)

    def names_fit(self, value):
        """Whether any value is names with which the form brings each case's mark."""
        if not is_names(self.form, value):
            return False
        return all([named_mark(self.form, value, setting) == mark for setting, mark in self.cases])

    def all_names(self):
        """All names that fit, ascending."""
        return self.fitting

    def can_be(self, setting):
        """For each mark that a setting can have, ascending, the mark and the least names that bring it."""
        need_setting(self.form.sizes, setting)
        need_names(self)
        least = {}
        for names in self.fitting:
            least.setdefault(named_mark(self.form, names, setting), names)
        return tuple([(mark, least[mark]) for mark in sorted(list(least))])

    def sure_mark(self, setting):
        """The mark that all names that fit bring at a setting, or None if there are several."""
        marks = self.can_be(setting)
        return marks[0][0] if len(marks) == 1 else None


def is_form_case(form, value):
    """Whether any value is a pair of a setting and a mark."""
    if not isinstance(value, tuple) or len(value) != 2:
        return False
    return is_setting(form.sizes, value[0]) and is_below(value[1], form.many)


def lone_place(setting):
    """The one part of a setting that is not at 0, and its content; or None."""
    places = [(part, content) for part, content in enumerate(setting) if content]
    return places[0] if len(places) == 1 else None


def lone_marks(cases):
    """For each part and content that stand alone in a case the marks of such cases."""
    marks = {}
    for setting, mark in cases:
        place = lone_place(setting)
        if place is not None:
            marks.setdefault(place, []).append(mark)
    return marks


def left_contents(form, lone, part):
    """The contents above 0 of a part that stand alone in no case."""
    return [content for content in range(1, form.many) if (part, content) not in lone]


def names_of_part(form, lone, part):
    """All rows of names of a part that tell the marks of contents that stand alone, ascending."""
    told = {0: form.base}
    for content in range(1, form.many):
        for mark in lone.get((part, content), []):
            if told.setdefault(content, mark) != mark:
                return []
    marks = [mark for mark in range(form.many) if mark not in list(told.values())]
    contents = left_contents(form, lone, part)
    # With a mark twice among those that are told there are too many left.
    if len(marks) != len(contents):
        return []
    rows = []
    for order in permutations(marks):
        further = dict(zip(contents, order))
        rows.append(tuple([told.get(content, further.get(content)) for content in range(form.many)]))
    return rows


def knots_mark(form, names):
    """The mark that the knots of a form bring by the names of its parts' contents."""
    marks = list(names)
    for knot in form.knots:
        marks.append(knot_mark(form.many, knot, marks))
    return marks[-1]


def named_mark(form, names, setting):
    """The mark that a form brings at a setting with other names; parts at 0 need none."""
    told = [names[part][content] if content else form.base for part, content in enumerate(setting)]
    return knots_mark(form, told)


def last_place(setting):
    """The last part that is not at 0, or 0."""
    return max([part for part, content in enumerate(setting) if content], default=0)


def fitting_names(form, cases, lone):
    """All names with which a form brings the marks of all cases, ascending."""
    found = [()]
    for part in range(len(form)):
        # A case is looked at as soon as all its parts have names.
        ready = [case for case in cases if last_place(case[0]) == part]
        wider = [names + (row,) for names in found for row in names_of_part(form, lone, part)]
        found = []
        for names in wider:
            if all([named_mark(form, names, setting) == mark for setting, mark in ready]):
                found.append(names)
    return tuple(found)


def is_names(form, value):
    """Whether any value is a tuple of tuples of names for all parts of a form."""
    if not isinstance(value, tuple) or len(value) != len(form):
        return False
    for row in value:
        if not isinstance(row, tuple) or not is_permutation(row, form.many) or row[0] != form.base:
            return False
    return True


def need_names(told):
    """An error if no names fit."""
    if not told.fitting:
        raise Refused(-1)


def untold_pairs(told):
    """All (part, c, d) of two contents above 0 of which no case has one in this part, ascending."""
    pairs = []
    for part in range(len(told.form)):
        seen = [setting[part] for setting, _ in told.cases]
        left = [content for content in range(1, told.form.many) if content not in seen]
        pairs.extend([(part, c, d) for c in left for d in left if c < d])
    return tuple(pairs)


def swapped_names(names, part, one, other):
    """The names with those of two contents of a part exchanged."""
    rows = [list(row) for row in names]
    rows[part][one], rows[part][other] = rows[part][other], rows[part][one]
    return tuple([tuple(row) for row in rows])


def cross_settings(told):
    """Settings of one content above 0 that stands alone in no case, all but the greatest of each part."""
    form = told.form
    lone = lone_marks(told.cases)
    settings = []
    for part in range(len(form)):
        for content in left_contents(form, lone, part)[:-1]:
            settings.append((0,) * part + (content,) + (0,) * (len(form) - part - 1))
    return tuple(settings)
