"""One sign: boxes and trees that show a matrix, so that one told sign is enough to know a bit."""

from fardials.bits import products, squares


class OneSign:
    """A number of one-sign boxes, a left tree for each row and a right tree for each column."""

    def __init__(self, count, left, right):
        self.count = count
        self.left = tuple(left)
        self.right = tuple(right)

    def __call__(self, row, column, signs):
        """The signs that both hands tell if the left hand reads these signs from the boxes."""
        dials, told = followed(self.left[row], signs, [0] * self.count)
        _, answered = followed(self.right[column], signs, dials)
        return (told, answered)


def followed(tree, signs, facing):
    """The dials that a hand turns by the tree, and the sign that it tells.

    From each box it reads the other hand's sign, or the other one if its own dial and the facing
    dial of the other hand are both 1. The tree asks the boxes in order.
    """
    turned = []
    while tree[0] == "ask":
        _, box, dial, branches = tree
        turned.append(dial)
        tree = branches[signs[box] ^ (dial & facing[box])]
    return (turned, tree[1])


def one_sign(matrix):
    """The boxes and the trees that show the matrix."""
    found = products(squares(matrix))
    corner = matrix[0][0]
    left = [summing_tree([u[x] for u, v in found], row[0]) for x, row in enumerate(matrix)]
    right = [summing_tree([v[y] for u, v in found], bit ^ corner) for y, bit in enumerate(matrix[0])]
    return OneSign(len(found), left, right)


def summing_tree(dials, bit):
    """The tree that asks box after box at these dials, and tells the sum by two of all signs and a bit."""
    # At each box, the trees that go on from there if the sum so far is the bit, or the other one.
    alike, unlike = ("tell", bit), ("tell", 1 - bit)
    for box in reversed(range(len(dials))):
        branches = (alike, unlike)
        alike = ("ask", box, dials[box], branches)
        unlike = ("ask", box, dials[box], branches[::-1])
    return alike
