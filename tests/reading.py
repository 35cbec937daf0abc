"""Texts, slowly: things sign by sign, lines by going down into what is due, by the document's own words."""

import ast
import re

LETTERS = "abcdefghijklmnopqrstuvwxyz"
HEADS = {"craft": "format way box modes pushes levers sensors lengths starts".split(),
         "code": "shape format cells forms handler".split(), "program": "shape format kept knocks forms".split()}


def next_state(state, sign):
    """The state behind a sign: (how many tuples are open, what is due); None if nothing written goes on so."""
    deep, due = state
    if due in ("item", "first"):
        if sign == "(" and deep < 40:
            return deep + 1, "first"
        if sign == ")" and due == "first":
            return deep - 1, "done"
        if sign in LETTERS:
            return deep, ("word", 1)
        if sign in "0-":
            return deep, "zero" if sign == "0" else "minus"
        return (deep, ("digits", 1)) if sign in "123456789" else None
    if due == "minus" and sign in "123456789":
        return deep, ("digits", 1)
    if type(due) is tuple and sign in {"word": LETTERS, "digits": "0123456789"}[due[0]]:
        most = {"word": 8, "digits": 200}[due[0]]
        return (deep, (due[0], due[1] + 1)) if due[1] < most else None
    if deep and sign in ",)":
        return (deep, "item") if sign == "," else (deep - 1, "done")
    return None


def longest_beginning(text):
    """How many signs the longest beginning has that is also one of something written; None if the text is it."""
    state = (0, "item")
    for at, sign in enumerate(text):
        state = next_state(state, sign)
        if state is None:
            return at
    return None if state[0] == 0 and state[1] not in ("item", "first") else len(text)


def thing_of(text):
    """What is written in a text that is wholly so."""
    told = re.sub("-(?![0-9])", "None", re.sub("[a-z]+", lambda word: {"yes": "True", "no": "False"}.get(
        word[0], repr(word[0])), text))
    return ast.literal_eval(re.sub(r"(?<=[^(])\)", ",)", told))


class Bad(Exception):
    """The line with this number has not the form due there."""


class Lines:
    """The closed lines of a text, taken one behind another."""

    def __init__(self, text):
        if type(text) is not str:
            raise Bad(0)
        self.lines = text.split("\n")
        self.rest = self.lines.pop()
        self.at = 0

    def peek(self):
        """The words of the next line, split at blanks; none if there is no closed one."""
        return self.lines[self.at].split(" ") if self.at < len(self.lines) else []

    def take(self, word, many):
        """The things of the next line, which has this word and so many of them."""
        words = self.peek()
        if not words or words[0] != word or len(words) != many + 1:
            raise Bad(self.at + 1)
        if any(longest_beginning(told) is not None for told in words[1:]):
            raise Bad(self.at + 1)
        self.at += 1
        return [thing_of(told) for told in words[1:]]

    def end(self):
        if self.at < len(self.lines) or self.rest:
            raise Bad(self.at + 1)


def head(lines, sort):
    return {word: lines.take(word, 3 if word == "format" else 1) for word in HEADS[sort]}


def craft_parts(text):
    lines = Lines(text)
    found = head(lines, "craft")
    lines.end()
    return found


def code_parts(text):
    lines = Lines(text)
    found, rows = head(lines, "code"), []
    while lines.peek():
        word = lines.peek()[0]
        if not re.fullmatch("[a-z]{1,8}", word) or word in ("yes", "no"):
            raise Bad(lines.at + 1)
        rows.append((word,) + tuple(lines.take(word, len(lines.peek()) - 1)))
    lines.end()
    return found, tuple(rows)


def program_parts(text):
    lines = Lines(text)
    found, bodies = head(lines, "program"), []
    while lines.peek()[:1] == ["body"]:
        lines.take("body", 0)
        bodies.append(body(lines))
        lines.take("end", 0)
    lines.take("handler", 0)
    handler = body(lines)
    lines.take("end", 0)
    lines.end()
    return found, tuple(bodies), handler


def body(lines):
    found = []
    while lines.peek()[:1] not in ([], ["end"], ["else"], ["case"]):
        word = lines.peek()[0]
        many = {"set": 2, "form": 2, "row": 1, "call": 1, "if": 1, "choose": 1, "rounds": 1}.get(word)
        if many is None:
            raise Bad(lines.at + 1)
        told = tuple(lines.take(word, many))
        if word == "if":
            told += (body(lines), lines.take("else", 0) and None or body(lines))
        elif word == "choose":
            cases = []
            while lines.peek()[:1] == ["case"]:
                case = lines.take("case", 1)[0]
                cases.append((case, body(lines)))
            lines.take("else", 0)
            told += (tuple(cases), body(lines))
        elif word == "rounds":
            told += (body(lines),)
        if word in ("if", "choose", "rounds"):
            lines.take("end", 0)
        found.append((word,) + told)
    return tuple(found)
