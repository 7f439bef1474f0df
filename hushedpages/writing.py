"""A tree is written as a text [5]."""


def write_tree(tree):
    """The text of a tree: its tokens, with one blank between any two of them."""
    tokens = []
    _put_tokens(tree, tokens)
    return " ".join(tokens)


def _put_tokens(tree, tokens):
    """Puts the tokens of a tree behind the others."""
    for node in tree:
        if node[0] == "word":
            tokens.append(node[1])
        else:
            _put_call(node, tokens)


def _put_call(node, tokens):
    """Puts the tokens of a call behind the others."""
    tokens.append("@" + node[1])
    for argument in node[2]:
        tokens.append("{")
        _put_tokens(argument, tokens)
        tokens.append("}")
