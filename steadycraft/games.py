"""The game of what can be known: choices that keep all wishes, and spoilers that break one."""

from steadycraft.crafts import is_lever
from steadycraft.errors import BadTelling, NoIndex, NoNode, NoNumber, NoSpoiler
from steadycraft.exploring import MOST_NODES, Game
from steadycraft.kinds import is_between, is_integer, is_pair, is_tuple
from steadycraft.knowing import MOST_STANDINGS, break_in, broken_first, first, known_behind, readings_from
from steadycraft.nodes import Branches, is_choice_among, is_node
from steadycraft.plants import is_place
from steadycraft.runs import is_reading, no_lacks
from steadycraft.stories import behind_one, run_along
from steadycraft.wishes import WITH_K

MOST_K = 30
MOST_PERIODS = 1000


def unbounded(craft, wishes):
    """Branches for what is passed: it is judged whatever its size."""
    return Branches(craft, wishes, None, None)


def is_choice(craft, wishes, thing):
    return is_choice_among(unbounded(craft, wishes), thing)


def is_spoiler(craft, wishes, thing):
    if not is_pair(thing):
        return False
    if isinstance(thing[0], str):
        return thing[0] == "start" and is_place(craft.plant, thing[1]) and thing[1] in broken_first(craft, wishes)
    reading, ranked = thing
    if not is_reading(craft, reading) or not isinstance(ranked, dict):
        return False
    for node, pair in ranked.items():
        if not is_node(craft, wishes, node) or not is_ranked_pair(craft, pair):
            return False
    root = known_behind(craft, first(craft, wishes), reading)
    if root is None or root not in ranked:
        return False
    branches = unbounded(craft, wishes)
    return all([leads_down(branches, ranked, node) for node in ranked])


def is_ranked_pair(craft, thing):
    """Whether a thing has the form of a pair (rank, next)."""
    if not is_pair(thing) or not is_integer(thing[0]) or thing[0] < 0:
        return False
    if thing[0] == 0:
        return thing[1] is None
    many = len(craft.levers)
    return is_tuple(many, many, thing[1]) and all([is_reading(craft, reading) for reading in thing[1]])


def leads_down(branches, ranked, node):
    """Whether a node has rank 0 just if it is lost, else behind each row a child of lesser rank."""
    rank, answers = ranked[node]
    if rank == 0 or branches.is_lost(node):
        return rank == 0 and branches.is_lost(node)
    for row, reading in enumerate(answers):
        child = behind_one(branches.craft, branches.led(node, row), reading)
        if child is None or child not in ranked or ranked[child][0] >= rank:
            return False
    return True


def check_spoiler(craft, wishes, spoiler):
    if not is_spoiler(craft, wishes, spoiler):
        raise NoSpoiler()


def rank_of(craft, wishes, spoiler):
    check_spoiler(craft, wishes, spoiler)
    if spoiler[0] == "start":
        return 0
    return spoiler[1][known_behind(craft, first(craft, wishes), spoiler[0])][0]


def first_nodes(branches):
    """A dict from the readings that can come first to the nodes behind them."""
    return branches.behind([first(branches.craft, branches.wishes)])


def played(craft, wishes, k):
    """The game from all roots, and the dict of these: coarse by k boxes where k is no None."""
    branches = Branches(craft, wishes, k, MOST_STANDINGS)
    roots_by = first_nodes(branches)
    return Game(branches, [roots_by[reading] for reading in roots_by], MOST_NODES), roots_by


def steady(craft, wishes):
    broken = broken_first(craft, wishes)
    if len(broken) > 0:
        return "barred", ("start", broken[0])
    game, roots_by = played(craft, wishes, None)
    rank = game.least_rank()
    if rank is None:
        return "made", game.choice()
    for number, reading in zip(game.firsts, roots_by):
        if game.ranks[number] == rank:
            break
    return "barred", (reading, game.spoiling(number))


def least_rank(craft, wishes):
    if len(broken_first(craft, wishes)) > 0:
        return 0
    game, _ = played(craft, wishes, None)
    return game.least_rank()


def asked(craft, telling, readings):
    """The row that a telling tells for readings."""
    row = telling(readings)
    if not is_lever(craft, row):
        raise BadTelling(readings)
    return row


def beaten(craft, wishes, spoiler, telling):
    check_spoiler(craft, wishes, spoiler)
    if spoiler[0] == "start":
        place = spoiler[1]
        reading = readings_from(craft, place, no_lacks(craft), 0)[0]
        return place, ((reading, asked(craft, telling, (reading,)), ()),)
    nodes, readings, rows = led_astray(craft, wishes, spoiler, telling)
    standing, pushes = break_in(craft, wishes, nodes[-1])
    start, periods = run_along(craft, wishes, nodes, tuple(zip(readings, rows)), standing)
    return start, periods[:-1] + ((readings[-1], rows[-1], pushes),)


def led_astray(craft, wishes, spoiler, telling):
    """The nodes, readings and rows, one behind another, by which a spoiler comes to a lost node."""
    reading, ranked = spoiler
    branches = unbounded(craft, wishes)
    nodes = [known_behind(craft, first(craft, wishes), reading)]
    readings = (reading,)
    rows = [asked(craft, telling, readings)]
    while ranked[nodes[-1]][0] > 0:
        reading = ranked[nodes[-1]][1][rows[-1]]
        nodes.append(behind_one(craft, branches.led(nodes[-1], rows[-1]), reading))
        readings = readings + (reading,)
        rows.append(asked(craft, telling, readings))
    return nodes, readings, rows


def longest(craft, wishes):
    _, choice = steady(craft, ())
    for many in range(len(wishes)):
        word, found = steady(craft, wishes[:many + 1])
        if word == "barred":
            return many, choice, found
        choice = found
    return len(wishes), choice, None


def least_k(craft, wishes, index):
    if not is_between(0, len(wishes) - 1, index) or wishes[index][0] not in WITH_K:
        raise NoIndex()
    for k in range(1, MOST_K + 1):
        word, _ = steady(craft, wishes[:index] + (wishes[index][:-1] + (k,),) + wishes[index + 1:])
        if word == "made":
            return k
    return None


def surest(craft, wishes, node):
    if not is_node(craft, wishes, node):
        raise NoNode()
    # The document has no TooMany where a start breaks a wish at once.
    bounded = len(broken_first(craft, wishes)) == 0
    branches = Branches(craft, wishes, None, MOST_STANDINGS if bounded else None)
    game = Game(branches, [node], MOST_NODES if bounded else None)
    return game.safe_rows(game.firsts[0])


def lasts(craft, wishes, many):
    if not is_between(0, MOST_PERIODS, many):
        raise NoNumber()
    rank = least_rank(craft, wishes)
    return rank is None or rank >= many
