"""Desks, on which a forest is changed."""

from votewoods.errors import InvalidIndex, InvalidTree, NothingToUndo, TooMany
from votewoods.forests import LEAF, MOST_TREES, check_forest, is_tree, is_votes
from votewoods.forms import same_answers
from votewoods.parts import is_whole


class Desk:
    """A forest whose changes can be undone and performed again."""

    def __init__(self, forest):
        """Begin with the forest."""
        check_forest(forest)
        self._now = forest
        self._earlier = []
        self._undone = []

    def set_leaf(self, tree, way, votes):
        """Change the votes of a leaf, and return whether the answers change."""
        kinds, answers, trees = self._now
        check_number(tree, trees)
        if not is_way(way, trees[tree]):
            raise InvalidIndex("there is no such leaf")
        if not is_votes(votes, answers):
            raise InvalidTree("these are not votes for the answers")
        changed = with_leaf(trees[tree], way, votes)
        return self._change((kinds, answers, trees[:tree] + (changed,) + trees[tree + 1:]))

    def put(self, tree):
        """Put a tree behind the others, and return whether the answers change."""
        kinds, answers, trees = self._now
        if not is_tree(tree, kinds, answers):
            raise InvalidTree("this is not a tree for the kinds and answers")
        if len(trees) == MOST_TREES:
            raise TooMany("there are 4 trees")
        return self._change((kinds, answers, trees + (tree,)))

    def take(self, tree):
        """Take a tree away, and return whether the answers change."""
        kinds, answers, trees = self._now
        check_number(tree, trees)
        if len(trees) == 1:
            raise InvalidIndex("there is no other tree")
        return self._change((kinds, answers, trees[:tree] + trees[tree + 1:]))

    def undo(self):
        """Revert the last change, and return whether the answers change."""
        if len(self._earlier) == 0:
            raise NothingToUndo("there is no change to undo")
        self._undone.append(self._now)
        return self._go_to(self._earlier.pop())

    def redo(self):
        """Perform again the last change that was undone, and return whether the answers change."""
        if len(self._undone) == 0:
            raise NothingToUndo("there is no change to perform again")
        self._earlier.append(self._now)
        return self._go_to(self._undone.pop())

    def forest(self):
        """Return the forest."""
        return self._now

    def _change(self, changed):
        """Make this the forest, as a change of its own, and return whether the answers change."""
        self._earlier.append(self._now)
        self._undone = []
        return self._go_to(changed)

    def _go_to(self, found):
        """Make this the forest, and return whether the answers change."""
        before = self._now
        self._now = found
        return not same_answers(before, found)

    def __len__(self):
        """Return the number of changes that are not undone."""
        return len(self._earlier)

    def __eq__(self, other):
        """Return whether the other value is a desk that has gone through the same forests."""
        return isinstance(other, Desk) and self._earlier == other._earlier and self._now == other._now


def check_number(number, trees):
    """Raise InvalidIndex if the value is not the number of one of the trees."""
    if not is_whole(number) or not 0 <= number < len(trees):
        raise InvalidIndex("there is no such tree")


def is_way(value, tree):
    """Return whether the value is a way to a leaf of the tree."""
    if not isinstance(value, str):
        return False
    for sign in value:
        if tree[0] == LEAF or sign not in ("0", "1"):
            return False
        tree = next_tree(tree, sign)
    return tree[0] == LEAF


def next_tree(tree, sign):
    """Return the tree to which a way goes from a test by this sign."""
    return tree[3] if sign == "0" else tree[4]


def with_leaf(tree, way, votes):
    """Return the tree with these votes for the leaf to which the way goes."""
    if way == "":
        return (LEAF, votes)
    changed = with_leaf(next_tree(tree, way[0]), way[1:], votes)
    return tree[:3] + ((changed, tree[4]) if way[0] == "0" else (tree[3], changed))
