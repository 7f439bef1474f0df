"""The faults of the nodes of an expanded tree: what stands where, and with which arguments [8], [9], [10]."""

from hushedpages.errors import BadCall, Misplaced
from hushedpages.tokens import is_name

# Where a node can stand: whether a word may stand there, and which calls.
PLACES = {
    "top": (False, ("head", "par", "list", "table", "show", "figure", "label", "contents", "index")),
    "prose": (True, ("hole", "page", "key", "note")),
    "note": (True, ("hole", "page")),
    "cell": (True, ("hole", "page")),
    "head": (True, ("hole",)),
    "caption": (True, ("hole",)),
    "formula": (True, ("hole", "over", "up", "low", "fence", "grid")),
    "items": (False, ("item",)),
    "rows": (False, ("row",)),
    "cells": (False, ("cell",)),
    "lines": (False, ("line",)),
}
MAY_BE_EMPTY = ("cell", "caption")

# The arguments that each call can have: one or more ways, of different lengths. An argument is told by the
# place that its nodes stand at, or by the words of which it must be one.
ARGUMENTS = {
    "head": (("head",),),
    "par": (("prose",),),
    "item": (("prose",),),
    "note": (("note",),),
    "show": (("formula",),),
    "up": (("formula",),),
    "low": (("formula",),),
    "fence": (("formula",),),
    "over": (("formula", "formula"),),
    "list": (("items",),),
    "table": (("rows",),),
    "row": (("cells",),),
    "cell": (("cell",), ("span", "cell")),
    "grid": (("lines",),),
    "line": (
        ("formula",),
        ("formula", "formula"),
        ("formula", "formula", "formula"),
        ("formula", "formula", "formula", "formula"),
        ("formula", "formula", "formula", "formula", "formula"),
        ("formula", "formula", "formula", "formula", "formula", "formula"),
    ),
    "figure": (("height", "caption"),),
    "hole": (("name",), ("name", "ending")),
    "label": (("name",),),
    "page": (("name",),),
    "key": (("word",),),
    "contents": ((),),
    "index": ((),),
}
WORDS = {
    "span": ("1", "2", "3", "4", "5", "6", "7", "8"),
    "height": ("1", "2", "3", "4", "5", "6"),
    "ending": ("0", "1", "2"),
}
MOST_LINES = 6


def check_nodes(tree, place):
    """Raises the first fault of the nodes of a tree that stands at a place."""
    words, calls = PLACES[place]
    for node in tree:
        if node[0] == "word":
            if not words:
                raise Misplaced(node[1])
        else:
            if node[1] not in calls:
                raise Misplaced(node[1])
            _check_call(node)


def _check_call(call):
    """Raises the first fault of a call that may stand at its place."""
    name, given = call[1], call[2]
    told = _told_arguments(name, len(given))
    for kind, argument in zip(told, given):
        if not _is_right(kind, argument):
            raise BadCall(name)
    if name == "grid" and not _are_right_lines(given[0]):
        raise BadCall(name)
    for kind, argument in zip(told, given):
        if kind in PLACES:
            check_nodes(argument, kind)


def _told_arguments(name, many):
    """Of which kinds the arguments of a call are told to be, if there are so many of them."""
    for told in ARGUMENTS[name]:
        if len(told) == many:
            return told
    raise BadCall(name)


def _is_right(kind, argument):
    """Whether an argument is a word as told, or is not empty where it must not be."""
    if kind in PLACES:
        return kind in MAY_BE_EMPTY or len(argument) > 0
    if len(argument) != 1 or argument[0][0] != "word":
        return False
    word = argument[0][1]
    if kind == "name":
        return is_name(word)
    return kind == "word" or word in WORDS[kind]


def _are_right_lines(nodes):
    """Whether the number of nodes in a grid is as told, and of their arguments if all of them are lines."""
    if len(nodes) > MOST_LINES:
        return False
    # Something else among the lines is misplaced, which is told later; what it has tells nothing here.
    for node in nodes:
        if node[0] == "word" or node[1] != "line":
            return True
    return all([len(node[2]) == len(nodes[0][2]) for node in nodes])
