"""The errors of the package; each keeps its arguments as they were passed."""


class TermError(ValueError):
    """What all errors of the package but NoKind derive from."""


class InvalidKind(TermError):
    """The argument of a kind that is called `word` is wrong."""

    def __init__(self, word):
        self.word = word


class InvalidRule(TermError):
    """The argument of a rule that is called `word` is wrong."""

    def __init__(self, word):
        self.word = word


class InvalidStory(TermError):
    """The thing with the index `at` makes it no story."""

    def __init__(self, at):
        self.at = at


class InvalidUnsure(TermError):
    """The thing with the index `at` is no unsure occasion."""

    def __init__(self, at):
        self.at = at


class InvalidText(TermError):
    """The line or part with the number `at` is not of its form."""

    def __init__(self, at):
        self.at = at


class InvalidCommand(TermError):
    """A command that no desk can do."""

    def __init__(self):
        TermError.__init__(self, "no command that can be done")


class Refused(TermError):
    """A live claim does not take what `at` tells the place of."""

    def __init__(self, at):
        self.at = at


class NoKind(KeyError):
    """No kind of the rule has this `name`."""

    def __init__(self, name):
        self.name = name
