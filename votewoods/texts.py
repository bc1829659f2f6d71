"""Texts of forests."""

from votewoods.errors import InvalidText
from votewoods.forests import AMONG, BELOW, LEAF, MOST_TESTS, check_forest, is_forest

# The longest text has 645 signs: one part of numbers and two of four letters, and four trees
# with eight leaves like [-9 -9 -9] and seven tests like (0<-99/4 ..). Longer ones are refused unread.
LONGEST_TEXT = 645


def format_forest(forest):
    """Return the text of the forest."""
    check_forest(forest)
    kinds, answers, trees = forest
    words = [",".join(kinds), str(answers)]
    return " ".join(words + [tree_text(tree) for tree in trees])


def tree_text(tree):
    """Return the text of a tree."""
    if tree[0] == LEAF:
        return "[" + " ".join([str(vote) for vote in tree[1]]) + "]"
    word, part, bound, first, second = tree
    test = f"{part}<{place_text(bound)}" if word == BELOW else f"{part}={bound}"
    return f"({test} {tree_text(first)} {tree_text(second)})"


def place_text(place):
    """Return the text of a place."""
    top, bottom = place
    return str(top) if bottom == 1 else f"{top}/{bottom}"


def parse_forest(text):
    """Return the forest with this text."""
    if not isinstance(text, str) or len(text) > LONGEST_TEXT:
        raise InvalidText("this is not the text of a forest")
    forest = read_forest(words_of(text))
    # Reading is lenient, as to 00 or doubled spaces: only the very text of the forest may stand.
    if not is_forest(forest) or format_forest(forest) != text:
        raise InvalidText("this is not the text of a forest")
    return forest


def words_of(text):
    """Return the text's words and brackets, the last one first."""
    for bracket in "([":
        text = text.replace(bracket, bracket + " ")
    for bracket in ")]":
        text = text.replace(bracket, " " + bracket)
    words = text.split(" ")
    words.reverse()
    return words


def take_word(words):
    """Take the next word off the end of the list."""
    if len(words) == 0:
        raise InvalidText("the text ends too early")
    return words.pop()


def read_forest(words):
    """Take all words, and return what they tell, be it a forest or not."""
    kinds = tuple(take_word(words).split(","))
    answers = read_number(take_word(words))
    trees = []
    while len(words) > 0:
        trees.append(read_tree(words, MOST_TESTS))
    return (kinds, answers, tuple(trees))


def read_tree(words, tests_left):
    """Take the words of a tree with at most so many tests on each way."""
    bracket = take_word(words)
    if bracket == "[":
        return (LEAF, read_votes(words))
    # Brackets may be nested in thousands: a tree that is too deep is refused at once.
    if bracket != "(" or tests_left == 0:
        raise InvalidText("there is no tree where one is needed")
    test = read_test(take_word(words))
    first = read_tree(words, tests_left - 1)
    second = read_tree(words, tests_left - 1)
    if take_word(words) != ")":
        raise InvalidText("a test does not end where it must")
    return test + (first, second)


def read_test(word):
    """Return the word, the part, and the place or the marks, of a test."""
    part, sign, bound = word.partition("<")
    if sign == "<":
        return (BELOW, read_number(part), read_place(bound))
    part, sign, bound = word.partition("=")
    return (AMONG, read_number(part), bound)


def read_place(word):
    """Return the place with this text."""
    top, sign, bottom = word.partition("/")
    return (read_number(top), read_number(bottom) if sign == "/" else 1)


def read_votes(words):
    """Take the words of a leaf behind its first bracket, and return its votes."""
    votes = []
    word = take_word(words)
    while word != "]":
        votes.append(read_number(word))
        word = take_word(words)
    return tuple(votes)


def read_number(word):
    """Return the number with this text."""
    try:
        return int(word)
    except ValueError:
        raise InvalidText("there is no number where one is needed") from None
