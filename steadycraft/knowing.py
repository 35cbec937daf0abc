"""What can be known of where the craft stands, by what was read and chosen."""

from steadycraft.crafts import is_lever
from steadycraft.errors import NoKnowledge, NoLacks, NoLength, NoLever, NoPlace, NoReading, Outside, TooMany
from steadycraft.kinds import ascending, is_between, is_pair, is_row, is_row_of, is_tuple
from steadycraft.plants import is_place
from steadycraft.runs import are_pushes, fits, is_reading, lacks_behind, no_lacks, tells_length
from steadycraft.wishes import begun, counted, counted_by, first_broken, marks

MOST_STANDINGS = 3000
MOST_WISHES = 4


def are_lacks(craft, thing):
    """Whether a thing tells how often each sensor can have lacked in a row."""
    return is_row_of([(0, lacks) for _, _, lacks in craft.sensors], thing)


def is_length(craft, thing):
    return is_between(0, craft.lengths[1], thing)


def readings_at(craft, place, lacks, length):
    if not is_place(craft.plant, place):
        raise NoPlace()
    if not are_lacks(craft, lacks):
        raise NoLacks()
    if craft.lengths[2] and not is_length(craft, length):
        raise NoLength()
    return readings_from(craft, place, lacks, length)


def readings_from(craft, place, lacks, length):
    """The ascending list of the readings that can come at a place."""
    found = [()]
    for (_, off, most), many, exact in zip(craft.sensors, lacks, craft.wholes(place)):
        counts = [None] if many < most else []
        counts.extend(list(range(exact - off, exact + off + 1)))
        found = [reading + (count,) for reading in found for count in counts]
    return [reading + (length,) for reading in found] if craft.lengths[2] else found


def first(craft, wishes):
    standings = [(place, begun(wishes, place)) for place in craft.starts]
    kept = tuple([standing for standing in standings if first_broken(standing[1]) is None])
    return (0, no_lacks(craft), 0 if craft.lengths[2] else None, kept)


def broken_first(craft, wishes):
    return tuple([place for place in craft.starts if first_broken(begun(wishes, place)) is not None])


def is_standing(craft, many, thing):
    """Whether a thing is a place with counts of so many wishes, none of them broken."""
    return is_pair(thing) and is_place(craft.plant, thing[0]) and is_row(many, many, -1, 31, thing[1])


def are_standings(craft, many, thing):
    """Whether a thing is an ascending tuple of such, perhaps empty."""
    if not isinstance(thing, tuple) or not all([is_standing(craft, many, standing) for standing in thing]):
        return False
    return ascending(thing)


def has_knowledge_form(craft, many, thing):
    """Whether a thing has the form of a knowledge, of so many wishes."""
    if not is_tuple(4, 4, thing):
        return False
    row, lacks, length, standings = thing
    if not is_lever(craft, row) or not are_lacks(craft, lacks):
        return False
    if craft.lengths[2] and not is_length(craft, length) or not craft.lengths[2] and length is not None:
        return False
    return are_standings(craft, many, standings)


def is_knowledge(craft, wishes, thing):
    return has_knowledge_form(craft, len(wishes), thing)


def many_counts(thing):
    """How many counts the first standing of what is perhaps a knowledge has; 0 if it has none."""
    if not is_tuple(4, 4, thing) or not isinstance(thing[3], tuple) or len(thing[3]) == 0:
        return 0
    standing = thing[3][0]
    return len(standing[1]) if is_pair(standing) and isinstance(standing[1], tuple) else 0


def check_whatever_wishes(craft, knowledge):
    many = many_counts(knowledge)
    if many > MOST_WISHES or not has_knowledge_form(craft, many, knowledge):
        raise NoKnowledge()


def reading_order(reading):
    """A key by which None comes ahead of all else."""
    return tuple([(0, 0) if item is None else (1, item) for item in reading])


def readings(craft, knowledge):
    check_whatever_wishes(craft, knowledge)
    return readings_of(craft, knowledge)


def readings_of(craft, knowledge):
    """The ascending list of the readings that can come at some standing."""
    _, lacks, length, standings = knowledge
    places, found = {}, {}
    for place, _ in standings:
        places[place] = True
    for place in places:
        for reading in readings_from(craft, place, lacks, length):
            found[reading] = True
    return sorted(list(found), key=reading_order)


def read(craft, knowledge, reading):
    check_whatever_wishes(craft, knowledge)
    if not is_reading(craft, reading):
        raise NoReading()
    known = known_behind(craft, knowledge, reading)
    if known is None:
        raise Outside()
    return known


def known_behind(craft, knowledge, reading):
    """What is known behind a reading; None where it can't come."""
    row, lacks, length, standings = knowledge
    led_on = lacks_behind(craft, lacks, reading)
    if led_on is None or not tells_length(craft, reading, length):
        return None
    left = tuple([standing for standing in standings if fits(craft, standing[0], reading)])
    return (row, led_on, length, left) if len(left) > 0 else None


def led(craft, wishes, knowledge, row):
    if not is_knowledge(craft, wishes, knowledge):
        raise NoKnowledge()
    if not is_lever(craft, row):
        raise NoLever()
    return led_on_by(craft, wishes, knowledge, row)


def led_on_by(craft, wishes, knowledge, row):
    """What can be known at the next begin, for each length if told."""
    acting, lacks, _, standings = knowledge
    low, high, told = craft.lengths
    step, layer, found = Step(craft, wishes, acting), list(standings), []
    for length in range(1, high + 1):
        layer = step.layer_behind(layer)
        if length >= low:
            # What comes at any length is known together, unless the length is told.
            ahead = found[-1][3] if len(found) > 0 and not told else ()
            found.append((row, lacks, length if told else None, all_standings(ahead, layer)))
    return tuple(found) if told else (found[-1],)


def all_standings(ahead, layer):
    """The ascending tuple of the standings of both: TooMany for too many of them."""
    found = {standing: True for standing in ahead}
    for standing in layer:
        found[standing] = True
    if len(found) > MOST_STANDINGS:
        raise TooMany(MOST_STANDINGS)
    return tuple(sorted(list(found)))


class Step:
    """A tick with a row, from standings to standings: what it worked out is kept."""

    def __init__(self, craft, wishes, row):
        self._craft = craft
        self._wishes = wishes
        self._row = row
        self._marks = {}
        self._counts = {}
        self._unbroken = {}

    def counts_behind(self, counts, place):
        """The counts at the next tick, with this place there; None if a wish breaks."""
        if place not in self._marks:
            self._marks[place] = marks(self._wishes, place)
        key = (counts, self._marks[place])
        if key not in self._counts:
            found = counted_by(self._wishes, counts, key[1])
            self._counts[key] = found if first_broken(found) is None else None
        return self._counts[key]

    def standings_behind(self, standing):
        """For each place to which some push leads, the pair of it and the counts there, or None."""
        place, counts = standing
        return [(goal, self.counts_behind(counts, goal)) for goal in self._craft.nexts(place, self._row)]

    def unbroken_behind(self, standing):
        """The list of the standings to which a tick can lead; None if a wish can break by it."""
        if standing not in self._unbroken:
            behind = self.standings_behind(standing)
            breaks = any([counts is None for _, counts in behind])
            self._unbroken[standing] = None if breaks else behind
        return self._unbroken[standing]

    def layer_behind(self, standings):
        """The list of the standings to which a tick leads from one of them without a break."""
        found = {}
        for standing in standings:
            for behind in self.standings_behind(standing):
                if behind[1] is not None:
                    found[behind] = True
        return list(found)


def break_in(craft, wishes, knowledge):
    row, _, _, standings = knowledge
    step = Step(craft, wishes, row)
    # To each standing leads a path (first standing, places): the first one that was found.
    paths = {standing: (standing, ()) for standing in standings}
    for _ in range(craft.lengths[1]):
        further = {}
        for standing in paths:
            origin, places = paths[standing]
            for behind in step.standings_behind(standing):
                path = (origin, places + (behind[0],))
                if behind[1] is None:
                    return origin, pushes_along(craft, row, path)
                further.setdefault(behind, path)
        paths = further
    return None


def pushes_along(craft, row, path):
    """Pushes that lead from a standing along places, tick by tick."""
    (place, _), places = path
    pushes = []
    for goal in places:
        pushes.append(craft.push_to(place, row, goal))
        place = goal
    return tuple(pushes)


def is_break_in(craft, wishes, knowledge, thing):
    if not is_pair(thing) or not is_standing(craft, len(wishes), thing[0]):
        return False
    row, _, _, standings = knowledge
    if thing[0] not in standings or not are_pushes(craft, 1, craft.lengths[1], thing[1]):
        return False
    (place, counts), pushes = thing
    for at, push in enumerate(pushes):
        place = craft.landing(place, row, push)
        counts = counted(wishes, counts, place)
        if first_broken(counts) is not None:
            return at == len(pushes) - 1
    return False
