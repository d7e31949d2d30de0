"""The errors of the program."""


class LandError(ValueError):
    """The base class of all errors."""


class InvalidCall(LandError):
    """A call that has another form than the calls of an outside."""


class InvalidJournal(LandError):
    """A journal with an entry that has no form of entries, or does not fit."""


class SyntaxProblem(LandError):
    """A text that has not the form of a land; start is where its reading fails."""

    def __init__(self, start):
        super().__init__(f"the text cannot be read on from character {start}")
        self.start = start


class InvalidLand(LandError):
    """A tree that breaks a rule; rule is the word of the first broken one."""

    def __init__(self, rule):
        super().__init__(f"the tree breaks the rule {rule}")
        self.rule = rule
