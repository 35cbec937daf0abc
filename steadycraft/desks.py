"""The desk: crafts, wishes, code and watches under names, line by line."""

from steadycraft.checking import checked_code
from steadycraft.compiling import compiled
from steadycraft.errors import NoLine, NoName, NoShape, NoWishes
from steadycraft.games import least_k, least_rank, longest, steady
from steadycraft.grammar import LETTERS
from steadycraft.machines import machine_of
from steadycraft.needs import lot_of, needs
from steadycraft.slimming import slim
from steadycraft.steering import shape_of, table_program
from steadycraft.texts import read_code, read_craft
from steadycraft.things import DIGITS, scanned
from steadycraft.watching import Watch
from steadycraft.wishes import are_wishes

MOST_LETTERS = 8
MOST_DIGITS = 4
SORTS = ("craft", "code", "wishes", "watch")

# What stands behind each word: a new name, the name of something that is kept, a number, a thing, or a text.
FORMS = {
    "craft": ("new", "text"),
    "code": ("new", "text"),
    "wishes": ("new", "craft", "thing"),
    "steady": ("wishes",),
    "longest": ("wishes",),
    "least": ("wishes", "number"),
    "steer": ("new", "wishes"),
    "check": ("wishes", "code"),
    "needs": ("code", "craft"),
    "watch": ("new", "craft"),
    "heard": ("watch", "thing"),
    "chose": ("watch", "number"),
    "places": ("watch",),
    "surely": ("watch", "thing"),
    "back": ("watch",),
}


def is_name(word):
    return 1 <= len(word) <= MOST_LETTERS and all([letter in LETTERS for letter in word])


def is_number(word):
    """Whether a word is a number of few figures, without needless zeros."""
    if not 1 <= len(word) <= MOST_DIGITS or not all([digit in DIGITS for digit in word]):
        return False
    return word == "0" or word[0] != "0"


def words_behind(line, many):
    """The word of a line, and so many others behind it, the last one with all that is left."""
    words = []
    for _ in range(many):
        word, blank, line = line.partition(" ")
        words.append(word)
        if blank == "":
            raise NoLine()
    return words + [line]


def parsed(line):
    """The word of a line, and the list of its items by their kinds: NoLine for what has none of the forms."""
    if not isinstance(line, str) or "\n" in line:
        raise NoLine()
    word, _, _ = line.partition(" ")
    if word not in FORMS:
        raise NoLine()
    kinds = FORMS[word]
    words = words_behind(line, len(kinds))
    return word, [item_of(kind, told) for kind, told in zip(kinds, words[1:])]


def item_of(kind, word):
    """What a word of a kind tells: NoLine for what has not its form."""
    if kind == "thing":
        thing, place = scanned(word)
        if place is not None:
            raise NoLine()
        return thing
    if kind == "text":
        if word == "":
            raise NoLine()
        return word.replace(";", "\n")
    if kind == "number":
        if not is_number(word):
            raise NoLine()
        return int(word)
    if not is_name(word):
        raise NoLine()
    return word


def do_craft(desk, name, text):
    return desk.keep("craft", name, read_craft(text))


def do_code(desk, name, text):
    return desk.keep("code", name, read_code(text))


def do_wishes(desk, name, craft, thing):
    if not are_wishes(craft.plant, thing):
        raise NoWishes()
    return desk.keep("wishes", name, (craft, thing))


def do_steady(desk, told):
    craft, wishes = told
    word, _ = steady(craft, wishes)
    return word if word == "made" else word + " " + str(least_rank(craft, wishes))


def do_longest(desk, told):
    craft, wishes = told
    many, _, _ = longest(craft, wishes)
    return str(many)


def do_least(desk, told, index):
    craft, wishes = told
    k = least_k(craft, wishes, index)
    return "-" if k is None else str(k)


def do_steer(desk, name, told):
    craft, wishes = told
    word, choice = steady(craft, wishes)
    if word == "barred":
        return word
    machine = slim(craft, machine_of(craft, wishes, choice))
    code, _ = compiled(table_program(craft, machine))
    return desk.keep("code", name, code)


def do_check(desk, told, code):
    craft, wishes = told
    word, found = checked_code(craft, wishes, code)
    return word if word == "holds" else word + " " + str(len(found[1]))


def do_needs(desk, code, craft):
    if code.shape != shape_of(craft):
        raise NoShape()
    beats, deep, _ = needs(code, lot_of(craft))
    return str(beats) + " " + str(deep)


def do_watch(desk, name, craft):
    return desk.keep("watch", name, Watch(craft))


def do_heard(desk, watch, reading):
    return watch.heard(reading)


def do_chose(desk, watch, row):
    return watch.chose(row)


def do_places(desk, watch):
    return str(len(watch.places()))


def do_surely(desk, watch, area):
    return "yes" if watch.surely(area) else "no"


def do_back(desk, watch):
    watch.back()
    return watch.word()


ACTIONS_OF_ONE = {"steady": do_steady, "longest": do_longest, "places": do_places, "back": do_back}
ACTIONS_OF_TWO = {
    "craft": do_craft, "code": do_code, "least": do_least, "steer": do_steer, "check": do_check, "needs": do_needs,
    "watch": do_watch, "heard": do_heard, "chose": do_chose, "surely": do_surely,
}


class Desk:
    """Keeps what it is told under names, those of each sort by themselves."""

    def __init__(self):
        self._kept = {sort: {} for sort in SORTS}

    def keep(self, sort, name, thing):
        self._kept[sort][name] = thing
        return "ok"

    def _found(self, kind, item):
        """What is kept under a name, if the kind is a sort of what is kept; else the item itself."""
        if kind not in SORTS:
            return item
        if item not in self._kept[kind]:
            raise NoName(item)
        return self._kept[kind][item]

    def tell(self, line):
        word, items = parsed(line)
        told = [self._found(kind, item) for kind, item in zip(FORMS[word], items)]
        if len(told) == 3:
            return do_wishes(self, told[0], told[1], told[2])
        if len(told) == 1:
            action = ACTIONS_OF_ONE[word]
            return action(self, told[0])
        action = ACTIONS_OF_TWO[word]
        return action(self, told[0], told[1])
