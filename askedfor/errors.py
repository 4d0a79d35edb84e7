"""The errors that the program raises on purpose."""


class Refused(ValueError):
    """What all errors of the program have in common."""


class Malformed(Refused):
    """A text is not well formed; `at` is an index into the text."""

    def __init__(self, at):
        self.at = at


class Unknown(Refused):
    """A name is used that is not bound, or an operation that is not declared."""

    def __init__(self, name):
        self.name = name


class Twice(Refused):
    """An operation is declared twice, or has two clauses in one handler."""

    def __init__(self, name):
        self.name = name


class Mismatched(Refused):
    """The type of the expression with this number does not fit."""

    def __init__(self, number):
        self.number = number


class Unhandled(Refused):
    """An operation may be asked for that nobody handles."""

    def __init__(self, name):
        self.name = name


class Unbounded(Refused):
    """A limit of the document is exceeded."""

    def __init__(self, name):
        self.name = name
