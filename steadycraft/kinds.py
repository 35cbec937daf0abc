"""Kinds of values that all parts ask for, and the rows of a box."""

from math import gcd


def is_integer(thing):
    return isinstance(thing, int) and not isinstance(thing, bool)


def is_between(least, most, thing):
    """Whether a thing is an integer within bounds."""
    return is_integer(thing) and least <= thing <= most


def is_flag(thing):
    return isinstance(thing, bool)


def is_tuple(least, most, thing):
    """Whether a thing is a tuple of so many items, whatever they are."""
    return isinstance(thing, tuple) and least <= len(thing) <= most


def is_pair(thing):
    return is_tuple(2, 2, thing)


def is_one_of(words, thing):
    """Whether a thing is one of some strings."""
    return isinstance(thing, str) and thing in words


def is_fraction(thing):
    """Whether a thing is a pair of integers, the bottom above 0, in lowest terms."""
    if not is_pair(thing) or not is_integer(thing[0]) or not is_integer(thing[1]):
        return False
    return thing[1] > 0 and gcd(thing[0], thing[1]) == 1


def is_span(least, most, thing):
    """Whether a thing is a pair (low, high) of integers within bounds, low not above high."""
    return is_pair(thing) and is_between(least, most, thing[0]) and is_between(thing[0], most, thing[1])


def are_spans(fewest, many, least, most, thing):
    """Whether a thing is a tuple of such pairs, from fewest to many of them."""
    return is_tuple(fewest, many, thing) and all([is_span(least, most, span) for span in thing])


def is_row(fewest, many, least, most, thing):
    """Whether a thing is a tuple of integers within bounds, from fewest to many of them."""
    return is_tuple(fewest, many, thing) and all([is_between(least, most, item) for item in thing])


def is_row_of(spans, thing):
    """Whether a thing is a tuple of an integer for each pair (low, high), within it."""
    if not is_tuple(len(spans), len(spans), thing):
        return False
    return all([is_between(low, high, item) for item, (low, high) in zip(thing, spans)])


def ascending(items):
    """Whether items that have an order come one above another, each once."""
    return all([one < other for one, other in zip(items, items[1:])])


def many_rows(spans):
    """How many rows of integers a tuple of pairs (low, high) has."""
    many = 1
    for low, high in spans:
        many = many * (high - low + 1)
    return many


def rows_of(spans):
    """The ascending list of the rows of integers of a tuple of pairs (low, high)."""
    rows = [()]
    for low, high in spans:
        rows = [row + (item,) for row in rows for item in range(low, high + 1)]
    return rows
