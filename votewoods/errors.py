"""The exceptions of the program."""


class VoteError(ValueError):
    """The base of all exceptions of the program."""


class InvalidForest(VoteError):
    """The value is not a forest."""


class InvalidInput(VoteError):
    """The value is not an input for the forest's kinds."""


class InvalidPart(VoteError):
    """The value is not the number of a part."""


class InvalidTree(VoteError):
    """The value is not a tree, or not votes, for the kinds and answers."""


class InvalidIndex(VoteError):
    """There is no such tree or leaf, or no other tree."""


class InvalidBox(VoteError):
    """The value is not a box for the forest's kinds."""


class InvalidFlag(VoteError):
    """The value is not a boolean."""


class InvalidText(VoteError):
    """The value is not the text of a forest."""


class NoFit(VoteError):
    """Two forests have unlike kinds or unlike numbers of answers."""


class TooMany(VoteError):
    """There are more trees, or more needed places, than are allowed."""


class NothingToUndo(VoteError):
    """There is no change to undo or to perform again."""
