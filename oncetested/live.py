"""Live boards: fair boards that deeds change, with labels that stay with their parts."""

from oncetested.boards import need_setting, nth_setting
from oncetested.errors import InvalidCommand, InvalidLot, InvalidSize, Refused
from oncetested.fair import is_fair, need_fair
from oncetested.forms import board_form
from oncetested.looks import replaced
from oncetested.putting import held_parts, led_board, marked_board, put_board, turned_board
from oncetested.shapes import inner_lots
from oncetested.trades import exchange_lots, exchanged_board
from oncetested.trees import shape_of
from oncetested.values import is_below, is_permutation, is_sequence, read_number

# How many numbers stand in a deed, and in those of any length at least.
NUMBERS = {"set": 2, "swap": 2, "hold": 2, "free": 1, "trade": 3, "put": 2}
FEWEST_NUMBERS = {"lead": 2, "mark": 1}


class Scene:
    """All parts behind some deeds, also held ones: board, labels, contents; which are held; how many labels came."""

    def __init__(self, board, labels, setting, held, came):
        self.board = board
        self.labels = labels
        self.setting = setting
        self.held = held
        self.came = came


class Live:
    """A fair board that deeds change; a shelf of boards that can be put in."""

    def __init__(self, board, shelf=()):
        self.board = need_fair(board)
        self.labels = tuple(range(len(board)))
        self.setting = (0,) * len(board)
        self.held = ()
        self.shelf = tuple(shelf)
        self.deeds = ()
        self.changed = ((), ())
        self.lots = inner_lots(self.now_shape())
        self.undone = ()
        self.scenes = (Scene(board, self.labels, self.setting, (), len(board)),)

    def deed(self, text):
        """Do a deed (any value)."""
        step_on(self, text)
        self.undone = ()

    def undo(self):
        """Take the last deed that stands back."""
        if not self.deeds:
            raise Refused(0)
        self.undone = self.undone + self.deeds[-1:]
        self.deeds = self.deeds[:-1]
        turn_scenes(self, self.scenes[:-1])

    def redo(self):
        """Do the last deed again that was taken back."""
        if not self.undone:
            raise Refused(0)
        step_on(self, self.undone[-1])
        self.undone = self.undone[:-1]

    def now_shape(self):
        """The shape of the board of the parts of now."""
        return shape_of(self.board)

    def now_form(self):
        """The form of the board of the parts of now."""
        return board_form(self.board)

    def mark_stays(self, lot, contents):
        """Whether the mark of now would stay if some labels had these contents (any values)."""
        places = need_places(self.labels, lot)
        need_setting([self.board.sizes[place] for place in places], contents)
        setting = self.setting
        for place, content in zip(places, contents):
            setting = replaced(setting, place, content)
        board = self.board
        return board(setting) == board(self.setting)


def need_places(labels, lot):
    """The places of any value that is a lot of labels, else an error."""
    if not is_sequence(lot) or len(lot) == 0:
        raise InvalidLot(-1)
    ahead = -1
    for at, label in enumerate(lot):
        if not is_below(label, max(labels) + 1) or label not in labels or label <= ahead:
            raise InvalidLot(at)
        ahead = label
    return [labels.index(label) for label in lot]


def labelled(labels, lot):
    """A lot of places as a lot of labels."""
    return tuple(sorted([labels[place] for place in lot]))


def show_scene(live):
    """Set what a live board shows of its last scene, and its one-test lots as lots of labels."""
    scene = live.scenes[-1]
    places = {label: place for place, label in enumerate(scene.labels)}
    left = [place for place, label in enumerate(scene.labels) if label not in scene.held]
    held = {places[label]: scene.setting[places[label]] for label in scene.held}
    live.board = held_parts(scene.board, list(held.items()))
    live.labels = tuple([scene.labels[place] for place in left])
    live.setting = tuple([scene.setting[place] for place in left])
    live.held = tuple(sorted([(label, scene.setting[places[label]]) for label in scene.held]))
    live.lots = tuple([labelled(live.labels, lot) for lot in inner_lots(live.now_shape())])


def lots_beyond(lots, others, labels):
    """The lots of some labels alone that are not among other ones, ascending."""
    kept = [lot for lot in lots if all([label in labels for label in lot])]
    known = {lot: True for lot in others}
    return tuple(sorted([lot for lot in kept if lot not in known]))


def turn_scenes(live, scenes):
    """Make these the scenes of a live board, and tell which lots have changed."""
    before = live.lots
    labels = live.labels
    live.scenes = scenes
    show_scene(live)
    live.changed = (lots_beyond(before, live.lots, live.labels), lots_beyond(live.lots, before, labels))


def step_on(live, text):
    """Do a deed, whether it comes anew or again."""
    word, numbers = read_deed(text)
    action = DEEDS[word]
    scene = action(live.scenes[-1], numbers, live.shelf)
    live.deeds = live.deeds + (text,)
    turn_scenes(live, live.scenes + (scene,))


def read_deed(text):
    """The word and the numbers of any value that is a deed, else an error."""
    if not isinstance(text, str):
        raise InvalidCommand()
    words = text.split(" ")
    word = words[0]
    numbers = [read_number(figures, 5) for figures in words[1:]]
    if word in FEWEST_NUMBERS:
        right = len(numbers) >= FEWEST_NUMBERS[word]
    else:
        right = word in NUMBERS and len(numbers) == NUMBERS[word]
    if not right or None in numbers:
        raise InvalidCommand()
    return word, numbers


def need_right(right):
    """An error for what is not to be done."""
    if not right:
        raise Refused(0)


def place_now(scene, label):
    """The place of the label of a part of now, else an error."""
    need_right(label in scene.labels and label not in scene.held)
    return scene.labels.index(label)


def set_content(scene, numbers, shelf):
    """The scene in which a part has another content."""
    label, content = numbers
    place = place_now(scene, label)
    need_right(content < scene.board.many)
    return Scene(scene.board, scene.labels, replaced(scene.setting, place, content), scene.held, scene.came)


def lead_part(scene, numbers, shelf):
    """The scene in which a part's contents stand for those of a row."""
    place = place_now(scene, numbers[0])
    row = numbers[1:]
    need_right(is_permutation(row, scene.board.many))
    setting = replaced(scene.setting, place, row.index(scene.setting[place]))
    return Scene(led_board(scene.board, place, row), scene.labels, setting, scene.held, scene.came)


def mark_anew(scene, numbers, shelf):
    """The scene in which mark m has become the m-th number."""
    need_right(is_permutation(numbers, scene.board.many))
    return Scene(marked_board(scene.board, numbers), scene.labels, scene.setting, scene.held, scene.came)


def swap_parts(scene, numbers, shelf):
    """The scene in which two parts have changed places."""
    one, other = [place_now(scene, label) for label in numbers]
    need_right(one != other)
    order = list(range(len(scene.labels)))
    order[one], order[other] = other, one
    labels = tuple([scene.labels[place] for place in order])
    setting = tuple([scene.setting[place] for place in order])
    return Scene(turned_board(scene.board, order), labels, setting, scene.held, scene.came)


def hold_part(scene, numbers, shelf):
    """The scene in which a part is held at a content."""
    need_right(len(scene.held) + 1 < len(scene.labels))
    led = set_content(scene, numbers, shelf)
    return Scene(led.board, led.labels, led.setting, scene.held + (numbers[0],), scene.came)


def free_part(scene, numbers, shelf):
    """The scene in which a held part is one again."""
    label = numbers[0]
    need_right(label in scene.held)
    held = tuple([other for other in scene.held if other != label])
    return Scene(scene.board, scene.labels, scene.setting, held, scene.came)


def trade_marks(scene, numbers, shelf):
    """The scene in which two marks are exchanged in one of the lots of settings that hang together by them."""
    one, other, number = numbers
    need_right(not scene.held and one != other and max(one, other) < scene.board.many)
    lots = exchange_lots(scene.board, one, other)
    need_right(number < len(lots))
    board = exchanged_board(scene.board, one, other, lots[number])
    return Scene(board, scene.labels, scene.setting, scene.held, scene.came)


def put_parts(scene, numbers, shelf):
    """The scene in which the parts of a board of the shelf have taken the place of a part."""
    label, number = numbers
    place = place_now(scene, label)
    need_right(number < len(shelf))
    inner = shelf[number]
    need_right(inner.many == scene.board.many and is_fair(inner))
    try:
        board = put_board(scene.board, place, inner)
    except InvalidSize:
        raise Refused(0) from None
    inside = nth_setting(inner.sizes, inner.marks.index(scene.setting[place]))
    setting = scene.setting[:place] + inside + scene.setting[place + 1:]
    further = tuple(range(scene.came, scene.came + len(inner)))
    labels = scene.labels[:place] + further + scene.labels[place + 1:]
    return Scene(board, labels, setting, scene.held, scene.came + len(inner))


DEEDS = {
    "set": set_content,
    "lead": lead_part,
    "mark": mark_anew,
    "swap": swap_parts,
    "hold": hold_part,
    "free": free_part,
    "trade": trade_marks,
    "put": put_parts,
}
