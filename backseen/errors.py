"""The errors of the library."""


class SeenError(ValueError):
    """The base of all errors of the library."""


class BadValue(SeenError):
    """An argument is wrong; `name` is the name of its parameter."""

    def __init__(self, name):
        super().__init__(f"wrong argument: {name}")
        self.name = name


class TooLarge(SeenError):
    """A limit is passed; `what` is the word with which the limit is told."""

    def __init__(self, what):
        super().__init__(f"too large: {what}")
        self.what = what


class NotPossible(SeenError):
    """Something cannot be done; `why` tells why."""

    def __init__(self, why):
        super().__init__(f"not possible: {why}")
        self.why = why


class TextError(SeenError):
    """A text cannot be read; `problem` is what is wrong at `column`."""

    def __init__(self, column, problem):
        super().__init__(f"column {column}: {problem}")
        self.column = column
        self.problem = problem
