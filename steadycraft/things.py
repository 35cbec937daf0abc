"""Things as they are written: integers, words, flags, nothing, and tuples of these."""

from steadycraft.grammar import LETTERS, is_word
from steadycraft.kinds import is_integer

DIGITS = "0123456789"
MOST_DIGITS = 200
# No integer of so many digits needs more bits.
MOST_BITS = 665
MOST_LETTERS = 8
DEEPEST = 40


def text_of(thing, deep):
    """What is written of a thing with at most so many tuples within one another; None if it can't be."""
    if thing is None:
        return "-"
    if isinstance(thing, bool):
        return "yes" if thing else "no"
    if is_integer(thing):
        digits = str(abs(thing)) if thing.bit_length() <= MOST_BITS else ""
        return str(thing) if 0 < len(digits) <= MOST_DIGITS else None
    if is_word(thing):
        return thing
    if not isinstance(thing, tuple) or deep == 0:
        return None
    texts = [text_of(item, deep - 1) for item in thing]
    if any([text is None for text in texts]):
        return None
    return "(" + ",".join(texts) + ")"


def scanned(text):
    """The pair (thing, place) of what is written in a text.

    place is None if the text is wholly something written; else it tells how many signs its
    longest beginning has that something written begins with, too.
    """
    # The items of the tuples that are not closed yet, the innermost one last.
    inner, at = [], 0
    while True:
        thing, end = scanned_item(text, at, inner)
        if end is None:
            return None, at
        at = end
        if thing == "(":
            inner.append([])
            continue
        while len(inner) > 0:
            inner[-1].append(thing)
            if text[at:at + 1] != ")":
                break
            thing = tuple(inner.pop())
            at += 1
        if len(inner) == 0:
            return thing, None if at == len(text) else at
        if text[at:at + 1] != ",":
            return None, at
        at += 1


def scanned_item(text, at, inner):
    """What is written at a place where an item is due, and where it ends; "(" for a tuple that is opened.

    The end is None where nothing that is due is written.
    """
    sign = text[at:at + 1]
    if sign == "":
        return None, None
    if sign == "(":
        if text[at + 1:at + 2] == ")" and len(inner) < DEEPEST:
            return (), at + 2
        return "(", None if len(inner) == DEEPEST else at + 1
    if sign in LETTERS:
        end = end_of(text, at, LETTERS, MOST_LETTERS)
        return named(text[at:end]), end
    if sign == "-":
        if text[at + 1:at + 2] == "" or text[at + 1] not in DIGITS[1:]:
            return None, at + 1
        end = end_of(text, at + 1, DIGITS, MOST_DIGITS)
        return int(text[at:end]), end
    if sign not in DIGITS:
        return None, None
    end = at + 1 if sign == "0" else end_of(text, at, DIGITS, MOST_DIGITS)
    return int(text[at:end]), end


def end_of(text, at, signs, most):
    """Where the signs of one sort end that stand from a place on, at most so many."""
    end = at
    while end < len(text) and end < at + most and text[end] in signs:
        end += 1
    return end


def named(word):
    """The flag, or the string, that is written as a word."""
    if word == "yes":
        return True
    return False if word == "no" else word
