"""The errors that the program raises."""


class PaperError(ValueError):
    """The base class of all errors that the program raises."""


class BadRatio(PaperError):
    """A ratio would have the denominator zero."""


class BadName(PaperError):
    """A text that is to be declared is not a name."""

    def __init__(self, name):
        PaperError.__init__(self, f"{name!r} is not a name")
        self.name = name


class NameTaken(PaperError):
    """A name is declared or bound already."""

    def __init__(self, name):
        PaperError.__init__(self, f"{name!r} is taken already")
        self.name = name


class UnknownName(PaperError):
    """A name is not declared."""

    def __init__(self, name):
        PaperError.__init__(self, f"{name!r} is not declared")
        self.name = name


class BadSort(PaperError):
    """An op is unknown, or the count or the sorts of its parts do not fit it."""

    def __init__(self, op):
        PaperError.__init__(self, f"{op!r} does not fit here")
        self.op = op


class BadNode(PaperError):
    """A number is not that of a node."""

    def __init__(self, number):
        PaperError.__init__(self, f"there is no node {number!r}")
        self.number = number


class BadText(PaperError):
    """A text cannot be read."""

    def __init__(self, place):
        PaperError.__init__(self, f"the text cannot be read at {place!r}")
        self.place = place


class BadModel(PaperError):
    """Arguments or a value do not fit a function of a model."""

    def __init__(self, name):
        PaperError.__init__(self, f"this does not fit the function {name!r}")
        self.name = name


class BadLiteral(PaperError):
    """A literal is not over the nodes at hand, or it is not open."""

    def __init__(self, literal):
        PaperError.__init__(self, f"the literal {literal!r} does not fit here")
        self.literal = literal


class NoLevel(PaperError):
    """The first level of a desk cannot be dropped."""


class NoAnswer(PaperError):
    """There is no answer with a model."""
