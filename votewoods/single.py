"""One tree that tells the answers of a forest, with the fewest leaves or the least depth."""

from votewoods.boxes import rows_of, sizes_of
from votewoods.errors import TooMany
from votewoods.forests import AMONG, BELOW, LEAF
from votewoods.forms import answers_form
from votewoods.parts import NUMBERS

MOST_PLACES = 4


def fewest_leaves(forest):
    """Return the least number of leaves of a tree that tells the forest's answers."""
    return best_tree(forest, False)[0]


def least_depth(forest):
    """Return the least depth of a tree that tells the forest's answers."""
    return best_tree(forest, True)[0]


def small_tree(forest):
    """Return a tree with the fewest leaves that tells the forest's answers."""
    return best_tree(forest, False)[1]


def flat_tree(forest):
    """Return a tree with the least depth that tells the forest's answers."""
    return best_tree(forest, True)[1]


def best_tree(forest, by_depth):
    """Return the least number of leaves, or the least depth, and a tree that has it."""
    axes, entries = answers_form(forest)
    kinds, answers, _ = forest
    check_places(kinds, axes)
    # Only the numbers of stretches and classes matter: more places or letters make no tree better.
    box = tuple([tuple(range(size)) for size in sizes_of(kinds, axes)])
    leaves = [leaf_for(entry, answers) for entry in entries]
    return best_for_box(box, (kinds, axes, dict(zip(rows_of(box), leaves))), by_depth, {})


def check_places(kinds, axes):
    """Raise TooMany if a part has too many needed places."""
    for kind, axis in zip(kinds, axes):
        if kind == NUMBERS and len(axis) > MOST_PLACES:
            raise TooMany("a part has more than 4 needed places")


def leaf_for(number, answers):
    """Return a leaf that votes for the answer with this number alone."""
    return (LEAF, tuple([1 if at == number else 0 for at in range(answers)]))


def best_for_box(box, grid, by_depth, kept):
    """Return the least cost of a tree for the box, and such a tree; boxes that are done are kept."""
    if box in kept:
        return kept[box]
    leaves = grid[2]
    rows = rows_of(box)
    leaf = leaves[rows[0]]
    if all([leaves[row] == leaf for row in rows]):
        found = (0 if by_depth else 1, leaf)
    else:
        found = best_test(box, grid, by_depth, kept)
    kept[box] = found
    return found


def best_test(box, grid, by_depth, kept):
    """Return the least cost of a tree for the box that begins with a test, and such a tree."""
    kinds, axes, _ = grid
    best = None
    for part, first, second in splits_of(box, kinds):
        low_cost, low_tree = best_for_box(with_group(box, part, first), grid, by_depth, kept)
        high_cost, high_tree = best_for_box(with_group(box, part, second), grid, by_depth, kept)
        cost = 1 + max(low_cost, high_cost) if by_depth else low_cost + high_cost
        if best is None or cost < best[0]:
            test = parting_test(kinds[part], part, axes[part], first, second)
            best = (cost, test + (low_tree, high_tree))
    return best


def with_group(box, part, group):
    """Return the box with this group of stretches or classes of the part alone."""
    return box[:part] + (group,) + box[part + 1:]


def splits_of(box, kinds):
    """Return, for all tests that cut the box, the part and the groups that go to the first and the second tree."""
    splits = []
    for part, kind in enumerate(kinds):
        pairs = cuts_of(box[part]) if kind == NUMBERS else halves_of(box[part])
        splits.extend([(part, first, second) for first, second in pairs])
    return splits


def cuts_of(group):
    """Return all pairs of a beginning of the group and the rest, neither of them empty."""
    return [(group[:at], group[at:]) for at in range(1, len(group))]


def halves_of(group):
    """Return all pairs of two groups, none empty, into which the group can be put."""
    # The first one always has the group's first number: the same pairs turned around make no better tree.
    pairs = [(group[:1], ())]
    for number in group[1:]:
        grown = [(first + (number,), second) for first, second in pairs]
        pairs = grown + [(first, second + (number,)) for first, second in pairs]
    return [pair for pair in pairs if len(pair[1]) > 0]


def parting_test(kind, part, axis, first, second):
    """Return the word, the part, and the place or the marks, of the test that parts the two groups."""
    if kind == NUMBERS:
        # The stretch with the number 1 begins at the place with the number 0.
        return (BELOW, part, axis[second[0] - 1])
    letters = "".join([axis[number] for number in first])
    return (AMONG, part, "".join(sorted(letters)))
