"""Balanced trees of signs, each node with the piece of its signs: so rows are cut and joined by few of them.

A tree is (height, how many signs, piece, left, right), left and right being trees, or None of a tree of one sign;
their heights differ by one at most. None is the tree of no signs.
"""

from stillopen.pieceforms import nothing, of_sign, put_together


class PieceTrees:
    """Makes trees for a machine that was checked; made counts how often two pieces were put together."""

    def __init__(self, machine):
        self.machine = machine
        self.made = 0

    def _together(self, one, other):
        """The piece of two pieces, one behind another."""
        self.made += 1
        return put_together(self.machine, one, other)

    def _over(self, left, right):
        """The tree of two trees whose heights differ by one at most."""
        return max(left[0], right[0]) + 1, left[1] + right[1], self._together(left[2], right[2]), left, right

    def _balanced(self, left, right):
        """The tree of two trees whose heights differ by two at most."""
        if left[0] > right[0] + 1:
            _, _, _, outer, inner = left
            if outer[0] >= inner[0]:
                return self._over(outer, self._over(inner, right))
            return self._over(self._over(outer, inner[3]), self._over(inner[4], right))
        if right[0] > left[0] + 1:
            _, _, _, inner, outer = right
            if outer[0] >= inner[0]:
                return self._over(self._over(left, inner), outer)
            return self._over(self._over(left, inner[3]), self._over(inner[4], outer))
        return self._over(left, right)

    def of_signs(self, signs):
        """The tree of signs that were checked."""
        if len(signs) == 0:
            return None
        if len(signs) == 1:
            return 0, 1, of_sign(self.machine, signs[0]), None, None
        half = len(signs) // 2
        return self._over(self.of_signs(signs[:half]), self.of_signs(signs[half:]))

    def joined(self, left, right):
        """The tree of two trees of any heights."""
        if left is None or right is None:
            return left if right is None else right
        if left[0] > right[0] + 1:
            return self._balanced(left[3], self.joined(left[4], right))
        if right[0] > left[0] + 1:
            return self._balanced(self.joined(left, right[3]), right[4])
        return self._over(left, right)

    def cut(self, tree, at):
        """(the tree of the signs ahead of a place, that of the others)."""
        if tree is None or at <= 0:
            return None, tree
        if at >= tree[1]:
            return tree, None
        many = tree[3][1]
        if at < many:
            ahead, behind = self.cut(tree[3], at)
            return ahead, self.joined(behind, tree[4])
        ahead, behind = self.cut(tree[4], at - many)
        return self.joined(tree[3], ahead), behind

    def piece(self, tree):
        """The piece of a tree."""
        return nothing(self.machine) if tree is None else tree[2]

    def part(self, tree, first, behind):
        """The piece of the signs of a tree from a place up to ahead of another one."""
        if tree is None or first >= behind:
            return nothing(self.machine)
        if first <= 0 and behind >= tree[1]:
            return tree[2]
        many = tree[3][1]
        if behind <= many:
            return self.part(tree[3], first, behind)
        if first >= many:
            return self.part(tree[4], first - many, behind - many)
        return self._together(self.part(tree[3], first, many), self.part(tree[4], 0, behind - many))
