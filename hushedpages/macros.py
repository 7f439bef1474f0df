"""Macros: the faults of a tree [6], and its expansion [7]."""

from hushedpages.errors import BadCall, TooLarge, TooLong, Twice, Unknown
from hushedpages.tokens import is_name

BUILT_IN = (
    "let", "hole", "page", "note", "key", "head", "par", "list", "item", "table", "row", "cell", "show",
    "over", "up", "low", "fence", "grid", "line", "figure", "label", "contents", "index",
)
MOST_MACROS = 40
MOST_NAMES = 4
MOST_LENGTH = 3000
MOST_NESTING = 20


def check_macros(tree):
    """Raises the first fault of a tree."""
    known = {}
    for node in tree:
        if _is_definition(node):
            _check_definition(node, known)
        else:
            _check_node(node, (), known)


def length_of(tree):
    """The number of words and calls in the expansion of a tree."""
    check_macros(tree)
    return _expansion_size(tree, _sizes_of(_macros_of(tree)))[0]


def nesting_of(tree):
    """The greatest number of arguments that stand within one another in the expansion of a tree."""
    check_macros(tree)
    return _expansion_size(tree, _sizes_of(_macros_of(tree)))[1]


def expanded(tree):
    """The expansion of a tree."""
    check_macros(tree)
    macros = _macros_of(tree)
    sizes = _sizes_of(macros)
    length, nesting = _expansion_size(tree, sizes)
    if length > MOST_LENGTH:
        raise TooLong(length)
    if nesting > MOST_NESTING:
        raise TooLarge("nesting")
    return Moulds(macros, sizes).made(_without_definitions(tree), {})


def _is_definition(node):
    """Whether a node of the top level is a definition."""
    return node[0] == "call" and node[1] == "let"


def _without_definitions(tree):
    """The nodes of the top level that are no definitions."""
    return tuple([node for node in tree if not _is_definition(node)])


# The faults of a tree. Known are the macros defined so far: for each name, how many parameters it has.


def _check_definition(node, known):
    """Raises the first fault of a definition; if it has none, its macro is known from now on."""
    if len(known) == MOST_MACROS:
        raise TooLarge("macros")
    names = _names_of(node[2])
    if names[0] in known:
        raise Twice(names[0])
    for inner in node[2][1]:
        _check_node(inner, names[1:], known)
    known[names[0]] = len(names) - 1


def _names_of(given):
    """The name of the macro and its parameters, from the arguments of a definition."""
    if len(given) != 2 or not 1 <= len(given[0]) <= MOST_NAMES:
        raise BadCall("let")
    names = tuple([node[1] for node in given[0] if _may_name(node)])
    if len(names) < len(given[0]) or len(set(names)) < len(names):
        raise BadCall("let")
    return names


def _may_name(node):
    """Whether a node is a word that a macro or a parameter can have as its name."""
    return node[0] == "word" and is_name(node[1]) and node[1] not in BUILT_IN


def _check_node(node, params, known):
    """Raises the first fault of a node that is no definition, where these parameters hold."""
    if node[0] == "word":
        return
    name, given = node[1], node[2]
    if name == "let":
        raise BadCall("let")
    if name in params:
        if len(given) > 0:
            raise BadCall(name)
    elif name in known:
        if len(given) != known[name]:
            raise BadCall(name)
    elif name not in BUILT_IN:
        raise Unknown(name)
    for argument in given:
        for inner in argument:
            _check_node(inner, params, known)


def _macros_of(tree):
    """The parameters and the body of each macro of a tree without faults, by its name, in order."""
    macros = {}
    for node in tree:
        if _is_definition(node):
            names = _names_of(node[2])
            macros[names[0]] = (names[1:], node[2][1])
    return macros


# The size of a tree, which may stand in a body, is a list of pairs. The first pair: the length and the
# nesting of its expansion, if the arguments for the parameters are empty. Then for each parameter: how
# often its argument stands in the expansion, and within how many others at most; (0, 0) if it never does.


def _expansion_size(tree, sizes):
    """The length and the nesting of the expansion of a whole tree."""
    return _size(_without_definitions(tree), (), sizes)[0]


def _sizes_of(macros):
    """The size of the body of each macro, by its name."""
    sizes = {}
    for name, (params, body) in macros.items():
        sizes[name] = _size(body, params, sizes)
    return sizes


def _size(tree, params, sizes):
    """The size of a tree."""
    total = [(0, 0)] * (len(params) + 1)
    for node in tree:
        total = _beside(total, _node_size(node, params, sizes))
    return total


def _node_size(node, params, sizes):
    """The size of a node."""
    nothing = [(0, 0)] * len(params)
    if node[0] == "word":
        return [(1, 0)] + nothing
    name, given = node[1], node[2]
    if name in params:
        return [(0, 0)] + [(1, 0) if name == param else (0, 0) for param in params]
    whole = sizes[name] if name in sizes else _built_in_size(len(given))
    total = [whole[0]] + nothing
    for place, argument in zip(whole[1:], given):
        total = _beside(total, _put_at(place, _size(argument, params, sizes)))
    return total


def _built_in_size(many):
    """The size of a built-in call with so many arguments, as if it were a macro with so many parameters."""
    return [(1, min(many, 1))] + [(1, 1)] * many


def _put_at(place, size):
    """The size of an argument that stands as often and as deep as its place tells."""
    times, depth = place
    return [(times * many, depth + deep) if times * many > 0 else (0, 0) for many, deep in size]


def _beside(size, other):
    """The size of two things side by side."""
    return [(many + more, max(deep, deeper)) for (many, deep), (more, deeper) in zip(size, other)]


# A mould is the expansion of a macro's body in which calls of parameters are left, but only of those that
# are filled: whose arguments stand somewhere in the expansion and are not empty. With a mould for each
# choice of filled parameters, nothing is made that is not seen in the end, however often an empty argument
# is called. So a mould with more words and calls than an expansion may have is never asked for, and not
# made. As each mould is made of ready moulds of earlier macros, no call goes deeper than one tree is nested.


class Moulds:
    """The moulds of macros that can be asked for, by the name of the macro and its filled parameters."""

    def __init__(self, macros, sizes):
        self.macros = macros
        self.sizes = sizes
        self.ready = {}
        for name in macros:
            self.prepare(name)

    def prepare(self, name):
        """Makes the moulds of a macro; those of all earlier macros are ready."""
        params, body = self.macros[name]
        length, nesting = self.sizes[name][0]
        often = {param: place[0] for param, place in zip(params, self.sizes[name][1:])}
        for filled in _choices([param for param in params if often[param] > 0]):
            many = length + sum([often[param] for param in filled])
            if many <= MOST_LENGTH and nesting <= MOST_NESTING:
                worth = {param: (("call", param, ()),) if param in filled else () for param in params}
                self.ready[name, filled] = self.made(body, worth)

    def made(self, tree, worth):
        """The expansion of a tree; worth tells what stands for a call of each parameter."""
        nodes = []
        for node in tree:
            if node[0] == "word":
                nodes.append(node)
            elif node[1] in worth:
                nodes.extend(worth[node[1]])
            elif node[1] in self.macros:
                nodes.extend(self.macro_made(node[1], node[2], worth))
            else:
                nodes.append(("call", node[1], tuple([self.made(inner, worth) for inner in node[2]])))
        return tuple(nodes)

    def macro_made(self, name, given, worth):
        """The expansion of a call of a macro with these arguments."""
        params = self.macros[name][0]
        inner = {param: () for param in params}
        for param, argument, place in zip(params, given, self.sizes[name][1:]):
            if place[0] > 0:
                inner[param] = self.made(argument, worth)
        filled = tuple([param for param in params if len(inner[param]) > 0])
        return self.made(self.ready[name, filled], inner)


def _choices(names):
    """All choices of some of these names, each in their order."""
    found = [()]
    for name in names:
        found = found + [chosen + (name,) for chosen in found]
    return found
