"""A text is read as a tree [5]."""

from hushedpages.errors import BadText
from hushedpages.tokens import is_name, is_word, tokens_of

MOST_OPEN = 12


def read_tree(text):
    """The tree of a text."""
    tokens = tokens_of(text)
    # One list of nodes for the top level, and one more for each brace that is open. The arguments of a
    # call stay a list until the list around the call is whole, so that a call with many is read quickly.
    levels = [[]]
    behind_call = False
    for at, token in enumerate(tokens):
        if not _fits(token, len(levels) - 1, behind_call):
            raise BadText(at)
        _take(token, levels)
        behind_call = token == "}" or token[0] == "@"
    if len(levels) > 1:
        raise BadText(len(tokens))
    return _tree_of(levels[0])


def _fits(token, many, behind_call):
    """Whether a token can follow, with so many braces open; behind_call: a call or its argument is directly ahead."""
    if token == "{":
        return behind_call and many < MOST_OPEN
    if token == "}":
        return many > 0
    if token[0] == "@":
        return is_name(token[1:])
    return is_word(token)


def _take(token, levels):
    """Puts a token that fits into the innermost list of nodes."""
    if token == "{":
        levels.append([])
    elif token == "}":
        tree = _tree_of(levels.pop())
        call = levels[-1][-1]
        call[2].append(tree)
    elif token[0] == "@":
        levels[-1].append(("call", token[1:], []))
    else:
        levels[-1].append(("word", token))


def _tree_of(nodes):
    """The tree of a whole list of nodes."""
    return tuple([_node_of(node) for node in nodes])


def _node_of(node):
    """The node of a whole word or call."""
    if node[0] == "word":
        return node
    return "call", node[1], tuple(node[2])
