"""Coarse choices: what is known behind each reading is made greater, by so many boxes."""

from steadycraft.boxing import MOST_BOXES, is_many_boxes
from steadycraft.errors import NoChoice, NoNumber, TooMany
from steadycraft.games import played, steady
from steadycraft.knowing import broken_first
from steadycraft.machines import machine_among
from steadycraft.nodes import Branches, is_choice_among


def check_many(k):
    if not is_many_boxes(k):
        raise NoNumber()


def steady_by(craft, wishes, k):
    check_many(k)
    return coarse_choice(craft, wishes, k)


def coarse_choice(craft, wishes, k):
    if len(broken_first(craft, wishes)) > 0:
        return None
    game, _ = played(craft, wishes, k)
    return game.choice() if game.least_rank() is None else None


def is_choice_by(craft, wishes, k, thing):
    check_many(k)
    return is_choice_among(Branches(craft, wishes, k, None), thing)


def least_boxes(craft, wishes):
    if surely_barred(craft, wishes):
        return None
    for k in range(1, MOST_BOXES + 1):
        if coarse_choice(craft, wishes, k) is not None:
            return k
    return None


def surely_barred(craft, wishes):
    """Whether there is no choice, as far as few enough nodes come to tell."""
    try:
        return steady(craft, wishes)[0] == "barred"
    except TooMany:
        # The coarse game has perhaps fewer nodes; with as many boxes as places it has these.
        return False


def machine_by(craft, wishes, k, choice):
    check_many(k)
    branches = Branches(craft, wishes, k, None)
    if not is_choice_among(branches, choice):
        raise NoChoice()
    return machine_among(branches, choice)
