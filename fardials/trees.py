"""Trees: what a hand asks of the boxes that it holds, and what it tells."""

from fardials.errors import InvalidWiring


def leaves(tree):
    """Yields the leaf (asked, sign) of each path of the tree, in the order of the branches."""
    if tree[0] == "tell":
        yield ((), tree[1])
    else:
        _, box, dial, branches = tree
        for read, branch in enumerate(branches):
            for asked, sign in leaves(branch):
                yield (((box, dial, read), *asked), sign)


def check_trees(trees, hand, boxes, shape):
    """Raises InvalidWiring unless the trees fit the hand of the shape, for these boxes."""
    dials, signs = shape[hand]
    if len(trees) != dials:
        raise InvalidWiring("there is one tree for each dial")
    sides = [box.shape[hand] for box in boxes]
    if not all([tree_fits(tree, sides, signs, ()) for tree in trees]):
        raise InvalidWiring("a tree asks or tells what is not there")


def tree_fits(tree, sides, signs, asked):
    """Whether a tree fits a hand with these signs that has asked these boxes before.

    The sides are the hand's dials and signs of each box.
    """
    if tree[0] == "tell":
        return 0 <= tree[1] < signs
    if tree[0] != "ask":
        return False
    _, box, dial, branches = tree
    if box in asked or not 0 <= box < len(sides):
        return False
    dials, reads = sides[box]
    return (0 <= dial < dials and len(branches) == reads
            and all([tree_fits(branch, sides, signs, (*asked, box)) for branch in branches]))
