"""Grafts: one wiring in place of a wiring whose boxes are wired tables."""

from fardials.errors import InvalidWiring


def grafted(trees, inner, *, counts):
    """The list of the trees of one hand, with the boxes of all inner wirings as their boxes."""
    if len(inner) != len(counts):
        raise InvalidWiring("there is one count for each inner wiring")
    for tree in trees:
        check_asks(tree, inner, counts)
    return [grafted_form(tree, inner, counts) for tree in trees]


def check_asks(tree, inner, counts):
    """Raises InvalidWiring unless each ask of an outer tree has an inner tree that fits it."""
    if tree[0] == "tell":
        return
    _, box, dial, branches = tree
    if not 0 <= box < len(inner) or not 0 <= dial < len(inner[box]):
        raise InvalidWiring("an outer tree asks an inner wiring or a dial that is not there")
    check_inner(inner[box][dial], counts[box], len(branches))
    for branch in branches:
        check_asks(branch, inner, counts)


def check_inner(tree, boxes, signs):
    """Raises InvalidWiring unless an inner tree asks and tells numbers below these ones alone."""
    if tree[0] == "tell":
        if not 0 <= tree[1] < signs:
            raise InvalidWiring("an inner tree tells a sign without a branch")
        return
    _, box, _, branches = tree
    if not 0 <= box < boxes:
        raise InvalidWiring("an inner tree asks a box that is not there")
    for branch in branches:
        check_inner(branch, boxes, signs)


def grafted_form(tree, inner, counts):
    """The grafted form of an outer tree."""
    if tree[0] == "tell":
        return tree
    _, box, dial, branches = tree
    ends = [grafted_form(branch, inner, counts) for branch in branches]
    return moved(inner[box][dial], sum(counts[:box]), ends)


def moved(tree, first, ends):
    """The inner tree with its boxes numbered from `first`, and `ends[s]` instead of a tell of s."""
    if tree[0] == "tell":
        return ends[tree[1]]
    _, box, dial, branches = tree
    return ("ask", first + box, dial, tuple([moved(branch, first, ends) for branch in branches]))
