"""The game of what can be known, slowly: all nodes by all pushes, judged by the document's own words."""

import itertools

from steadycraft.wishes import begun, counted
from tests import support


def is_integer(thing):
    return type(thing) is int


def is_number_to(thing, most):
    return is_integer(thing) and 0 <= thing <= most


def in_order(found):
    return sorted(found, key=lambda reading: [(item is not None, item or 0) for item in reading])


def is_knowledge(craft, many, thing):
    """Whether a thing has the form of a knowledge of so many wishes."""
    _, high, told = craft.lengths
    if type(thing) is not tuple or len(thing) != 4:
        return False
    row, lacks, length, standings = thing
    if not is_number_to(row, len(craft.levers) - 1):
        return False
    if type(lacks) is not tuple or len(lacks) != len(craft.sensors):
        return False
    if not all(is_number_to(one, most) for one, (_, _, most) in zip(lacks, craft.sensors)):
        return False
    if not (is_number_to(length, high) if told else length is None) or type(standings) is not tuple:
        return False
    if not all(is_standing(craft, many, standing) for standing in standings):
        return False
    return list(standings) == sorted(set(standings))


def is_standing(craft, many, thing):
    if type(thing) is not tuple or len(thing) != 2:
        return False
    place, counts = thing
    if type(place) is not tuple or not all(map(is_integer, place)) or place not in support.rows(craft.plant.box):
        return False
    if type(counts) is not tuple or len(counts) != many:
        return False
    return all(is_integer(count) and -1 <= count <= 31 for count in counts)


def is_node(craft, many, thing):
    return is_knowledge(craft, many, thing) and len(thing[3]) > 0


def is_reading(craft, thing):
    """Whether a thing has the form of a reading."""
    many = len(craft.sensors)
    if type(thing) is not tuple or len(thing) != many + craft.lengths[2]:
        return False
    if craft.lengths[2] and not is_number_to(thing[-1], craft.lengths[1]):
        return False
    return all(item is None or is_integer(item) for item in thing[:many])


def cuts(lot, many):
    """The parts of a lot, cut at its greatest steps: by trying each step in the order of its size."""
    steps = [sum(abs(one - other) for one, other in zip(lot[at], lot[at + 1])) for at in range(len(lot) - 1)]
    chosen = []
    while len(chosen) < many - 1 and len(chosen) < len(steps):
        left = [at for at in range(len(steps)) if at not in chosen]
        chosen.append(min(left, key=lambda at: (-steps[at], at)))
    parts = [[lot[0]]]
    for at, place in enumerate(lot[1:]):
        if at in chosen:
            parts.append([])
        parts[-1].append(place)
    return parts


def box_of(part):
    return tuple((min(items), max(items)) for items in zip(*part))


class Play:
    """The game of a slow craft and wishes; with k its coarse game by so many boxes."""

    def __init__(self, slow, wishes, k=None):
        self.slow, self.craft, self.wishes, self.k = slow, slow.craft, wishes, k
        self.kept_nodes = {}

    def broken_first(self):
        return [place for place in self.craft.starts if None in begun(self.wishes, place)]

    def first(self):
        counts = {place: begun(self.wishes, place) for place in self.craft.starts}
        kept = tuple((place, counts[place]) for place in self.craft.starts if None not in counts[place])
        return (0, (0,) * len(self.craft.sensors), 0 if self.craft.lengths[2] else None, kept)

    def greater(self, standings):
        if self.k is None:
            return standings
        found = set()
        for part in cuts(sorted({place for place, _ in standings}), self.k):
            box = box_of(part)
            inside = [place for place in self.slow.places if support.is_inside((box,), place)]
            counts = {one for place, one in standings if support.is_inside((box,), place)}
            found |= set(itertools.product(inside, counts))
        return tuple(sorted(found))

    def behind(self, knowledge):
        """A dict from readings, ascending, to nodes."""
        row, lacks, length, standings = knowledge
        left = {}
        for standing in standings:
            for reading in self.slow.readings(standing[0], lacks, length):
                left.setdefault(reading, []).append(standing)
        return {reading: (row, support.lacks_behind(lacks, reading), length, self.greater(tuple(left[reading])))
                for reading in in_order(left)}

    def layers(self, node):
        """For each tick the standings without a break, and whether a wish breaks at some tick."""
        layer, layers, breaks = set(node[3]), [], False
        for _ in range(self.craft.lengths[1]):
            further = set()
            for place, counts in layer:
                for push in self.slow.pushes:
                    goal = self.slow.goals[place, node[0], push]
                    further.add((goal, counted(self.wishes, counts, goal)))
            breaks = breaks or any(None in counts for _, counts in further)
            layer = {standing for standing in further if None not in standing[1]}
            layers.append(layer)
        return layers, breaks

    def is_lost(self, node):
        return self.layers(node)[1]

    def led(self, node, row):
        low, high, told = self.craft.lengths
        layers = self.layers(node)[0]
        if told:
            lots = {length: layers[length - 1] for length in range(low, high + 1)}
        else:
            lots = {None: set().union(*layers[low - 1:])}
        return tuple((row, node[1], length, tuple(sorted(lot))) for length, lot in lots.items())

    def children_by(self, node, row):
        found = {}
        for knowledge in self.led(node, row):
            found.update(self.behind(knowledge))
        return {reading: found[reading] for reading in in_order(found)}

    def roots(self):
        return sorted(set(self.behind(self.first()).values()))

    def children(self, node, row):
        return sorted(set(self.children_by(node, row).values()))

    def nodes(self, firsts, most=400):
        """A dict from all nodes that come to None, of lost ones, or their children row by row; None for too many."""
        found, todo = {}, list(firsts)
        while todo:
            node = todo.pop()
            if node in found:
                continue
            if len(found) == most:
                return None
            found[node] = None
            if not self.is_lost(node):
                found[node] = [self.children(node, row) for row in range(len(self.craft.levers))]
                todo.extend(child for rows in found[node] for child in rows)
        return found

    def ranks(self, nodes):
        """Round by round, from which nodes a wish can be broken against whatever chooses."""
        ranks = {node: 0 for node in nodes if nodes[node] is None}
        rank = 0
        while True:
            rank += 1
            more = [node for node in nodes if node not in ranks
                    and all(any(child in ranks for child in row) for row in nodes[node])]
            if not more:
                return ranks
            ranks.update((node, rank) for node in more)

    def is_choice(self, thing):
        if type(thing) is not dict or self.broken_first():
            return False
        for node, row in thing.items():
            if not is_node(self.craft, len(self.wishes), node):
                return False
            if not is_number_to(row, len(self.craft.levers) - 1):
                return False
        if not all(root in thing for root in self.roots()):
            return False
        return all(not self.is_lost(node) and all(child in thing for child in self.children(node, row))
                   for node, row in thing.items())

    def is_spoiler(self, thing):
        if type(thing) is not tuple or len(thing) != 2:
            return False
        if type(thing[0]) is str and thing[0] == "start":
            place = thing[1]
            return type(place) is tuple and all(map(is_integer, place)) and place in self.broken_first()
        reading, ranked = thing
        if not is_reading(self.craft, reading) or type(ranked) is not dict:
            return False
        firsts = self.behind(self.first())
        if reading not in firsts or firsts[reading] not in ranked:
            return False
        return all(self.is_ranked(ranked, node) for node in ranked)

    def is_ranked(self, ranked, node):
        if not is_node(self.craft, len(self.wishes), node):
            return False
        pair = ranked[node]
        if type(pair) is not tuple or len(pair) != 2 or not is_integer(pair[0]) or pair[0] < 0:
            return False
        rank, answers = pair
        if self.is_lost(node):
            return rank == 0 and answers is None
        if rank == 0 or type(answers) is not tuple or len(answers) != len(self.craft.levers):
            return False
        for row, reading in enumerate(answers):
            if not is_reading(self.craft, reading):
                return False
            children = self.children_by(node, row)
            if reading not in children or children[reading] not in ranked:
                return False
            below = ranked[children[reading]]
            if type(below) is not tuple or not below or not is_integer(below[0]) or below[0] >= rank:
                return False
        return True


def plays(chance, many, most_nodes=120, k=None, **told):
    """So many games of few nodes, by chance, few of them trivial: (play, all nodes that come)."""
    while many > 0:
        slow = support.Slow(support.some_craft(chance, **told))
        wishes = support.some_wishes(chance, slow.craft.plant)
        play = Play(slow, wishes, k)
        nodes = play.nodes(play.roots(), most_nodes)
        if nodes is None:
            continue
        trivial = play.broken_first() or len(nodes) < 6 or all(nodes[root] is None for root in play.roots())
        if not trivial or chance.random() < 0.03:
            many -= 1
            yield play, nodes
