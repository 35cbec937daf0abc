"""Stories: what was read and chosen, what is known behind them, and runs that they may have been."""

from steadycraft.crafts import is_lever
from steadycraft.errors import NoStanding, NoStory, Outside
from steadycraft.kinds import is_pair
from steadycraft.knowing import Step, first, is_standing, known_behind, led_on_by, pushes_along
from steadycraft.runs import is_reading, is_run
from steadycraft.wishes import begun, counted, first_broken, ticks_of


def is_story(craft, thing):
    if not isinstance(thing, tuple) or len(thing) == 0:
        return False
    return all([is_story_pair(craft, at == len(thing) - 1, pair) for at, pair in enumerate(thing)])


def is_story_pair(craft, last, thing):
    """Whether a thing is a reading, and the row chosen behind it: None behind the last one."""
    if not is_pair(thing) or not is_reading(craft, thing[0]):
        return False
    return thing[1] is None if last else is_lever(craft, thing[1])


def behind_one(craft, knowledges, reading):
    """The node behind a reading that can come at one of some knowledges; None if it can't come."""
    for knowledge in knowledges:
        node = known_behind(craft, knowledge, reading)
        if node is not None:
            return node
    return None


def nodes_along(craft, wishes, story):
    """The nodes behind the readings of a story; None if one can't come. It may raise TooMany."""
    knowledges, nodes = (first(craft, wishes),), []
    for reading, row in story:
        node = behind_one(craft, knowledges, reading)
        if node is None:
            return None
        nodes.append(node)
        if row is not None:
            knowledges = led_on_by(craft, wishes, node, row)
    return nodes


def known(craft, wishes, story):
    if not is_story(craft, story):
        raise NoStory()
    nodes = nodes_along(craft, wishes, story)
    if nodes is None:
        raise Outside()
    return nodes[-1]


def check_standing(craft, wishes, story, standing):
    if not is_story(craft, story):
        raise NoStory()
    if not is_standing(craft, len(wishes), standing):
        raise NoStanding()


def run_to(craft, wishes, story, standing):
    check_standing(craft, wishes, story, standing)
    nodes = nodes_along(craft, wishes, story)
    if nodes is None or standing not in nodes[-1][3]:
        return None
    return run_along(craft, wishes, nodes, story, standing)


def run_along(craft, wishes, nodes, story, standing):
    """A run by a story to a standing of the last one of its nodes."""
    low, high, told = craft.lengths
    steps = [Step(craft, wishes, row) for row in range(len(craft.levers))]
    periods = [(story[-1][0], None, ())]
    for at in range(len(story) - 2, -1, -1):
        if told:
            low = high = story[at + 1][0][-1]
        standing, places = path_to(steps[nodes[at][0]], nodes[at][3], low, high, standing)
        pushes = pushes_along(craft, nodes[at][0], (standing, places))
        periods.append(story[at] + (pushes,))
    return standing[0], tuple(periods[::-1])


def path_to(step, standings, low, high, goal):
    """A standing out of some, and places that lead from it, in low to high ticks, to a goal."""
    # For each tick a dict from standings to one of those that are a tick ahead.
    layers = []
    layer = list(standings)
    for length in range(1, high + 1):
        origins = {}
        for standing in layer:
            for behind in step.standings_behind(standing):
                if behind[1] is not None:
                    origins.setdefault(behind, standing)
        layers.append(origins)
        if length >= low and goal in origins:
            break
        layer = list(origins)
    places = []
    for origins in layers[::-1]:
        places.append(goal[0])
        goal = origins[goal]
    return goal, tuple(places[::-1])


def is_run_to(craft, wishes, story, standing, thing):
    check_standing(craft, wishes, story, standing)
    if not is_run(craft, thing) or thing[1][-1][2] != ():
        return False
    if tuple([(reading, row) for reading, row, _ in thing[1]]) != story:
        return False
    places, _ = ticks_of(craft, thing)
    counts = begun(wishes, places[0])
    for place in places[1:]:
        counts = counted(wishes, counts, place)
    # A count that is None stays so: what is no break at the end was none ahead.
    return first_broken(counts) is None and (places[-1], counts) == standing
