"""Splits: all names that contents can have, gone through one by one, that show what told cases of a form make sure."""

from oncetested.told import knots_mark
from oncetested.values import is_below, is_integer, wrong_place


def first_names(form):
    """For each part the names of contents ahead of all splits: content 0 alone has one."""
    return [{0: form.base} for _ in range(len(form))]


def with_name(names, part, content, mark):
    """Names with that of one content more."""
    row = {other: names[part][other] for other in names[part]}
    row[content] = mark
    return names[:part] + [row] + names[part + 1:]


def mark_on_way(form, names, setting):
    """The mark of a setting by the names that contents have on the way, or None if one of its own has none."""
    if not all([content in row for row, content in zip(names, setting)]):
        return None
    return knots_mark(form, [row[content] for row, content in zip(names, setting)])


def marks_left(form, names, part):
    """The marks that no content of a part has on the way, ascending."""
    taken = list(names[part].values())
    return [mark for mark in range(form.many) if mark not in taken]


def naming_order(settings):
    """The parts and contents above 0 of settings, those first that settings with the fewest further ones have."""
    order = []
    waiting = [[(part, content) for part, content in enumerate(setting) if content] for setting in settings]
    while True:
        further = [[place for place in places if place not in order] for places in waiting]
        waiting = [places for places in further if places]
        if not waiting:
            return order
        # One further content can have just one name: by a fair board each other one brings another mark.
        order.extend(min(waiting, key=len))


def ready_after(order, setting):
    """How many contents in order have names when all of a setting have."""
    return max([order.index((part, content)) + 1 for part, content in enumerate(setting) if content], default=0)


class Search:
    """What a split is made of: a form, its cases, an asked case or None, the order of names, what is ready when."""

    def __init__(self, told, asked):
        cases = list(told.cases)
        settings = [setting for setting, _ in ([asked] if asked else []) + cases]
        self.form = told.form
        self.asked = asked
        self.cases = cases
        self.order = naming_order(settings)
        self.ready = [ready_after(self.order, setting) for setting, _ in cases]


def first_wrong(search, names, count):
    """The first case that is ready behind so many names and has not its mark by these, or None."""
    for number, (setting, mark) in enumerate(search.cases):
        if search.ready[number] == count and mark_on_way(search.form, names, setting) != mark:
            return number
    return None


def split_from(search, names, count):
    """Some split behind the first names of the order."""
    number = first_wrong(search, names, count)
    if number is not None:
        return "case", number
    if search.asked and mark_on_way(search.form, names, search.asked[0]) == search.asked[1]:
        return ("mark",)
    part, content = search.order[count]
    branches = []
    for mark in marks_left(search.form, names, part):
        branches.append((mark, split_from(search, with_name(names, part, content, mark), count + 1)))
    return "part", part, content, tuple(branches)


def clash_split(told):
    """Some split that shows that no names fit, or None if some do."""
    if told.all_names():
        return None
    return split_from(Search(told, None), first_names(told.form), 0)


def sure_split(told, setting):
    """Some split that shows the sure mark of a setting, or None if it has several."""
    mark = told.sure_mark(setting)
    if mark is None:
        return None
    return split_from(Search(told, (tuple(setting), mark)), first_names(told.form), 0)


def is_branched(told, asked, names, part, content, value):
    """Whether any value is pairs of each mark left for a content and of a split behind this name."""
    marks = marks_left(told.form, names, part)
    if not isinstance(value, tuple) or len(value) != len(marks):
        return False
    for mark, branch in zip(marks, value):
        if not isinstance(branch, tuple) or len(branch) != 2 or not is_integer(branch[0]) or branch[0] != mark:
            return False
        if not is_split(told, asked, with_name(names, part, content, mark), branch[1]):
            return False
    return True


def is_split(told, asked, names, value):
    """Whether any value is a split behind some names, for an asked case, or None."""
    if not isinstance(value, tuple) or len(value) == 0:
        return False
    if len(value) == 1 and value[0] == "mark":
        return asked is not None and mark_on_way(told.form, names, asked[0]) == asked[1]
    if len(value) == 2 and value[0] == "case":
        if not is_below(value[1], len(told.cases)):
            return False
        setting, mark = told.cases[value[1]]
        return mark_on_way(told.form, names, setting) not in (None, mark)
    if len(value) != 4 or value[0] != "part" or not is_below(value[1], len(told.form)):
        return False
    _, part, content, branches = value
    if not is_below(content, told.form.many) or content in names[part]:
        return False
    return is_branched(told, asked, names, part, content, branches)


def split_holds(told, setting, mark, value):
    """Whether any value is a split that shows that a setting has a mark by all names that fit."""
    if wrong_place(told.form.sizes, setting) is not None or not is_below(mark, told.form.many):
        return False
    return is_split(told, (tuple(setting), mark), first_names(told.form), value)


def clash_split_holds(told, value):
    """Whether any value is a split that shows that no names fit."""
    return is_split(told, None, first_names(told.form), value)
