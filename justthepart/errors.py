"""The errors that the package raises."""


class GuardError(Exception):
    """What all errors of the package have in common."""


class BadThing(GuardError):
    """A thing that is not of the kind that was asked for."""

    def __init__(self, thing):
        # The thing may be of any kind and size, so the message leaves it out.
        super().__init__("a thing that is not of the kind that was asked for")
        self.thing = thing


class BadText(GuardError):
    """A text that is wrong at a line and column, counted from 1."""

    def __init__(self, line, column):
        super().__init__(f"line {line}, column {column}")
        self.line = line
        self.column = column


class BadNet(GuardError):
    """A thing that is no net."""

    def __init__(self, name, why):
        super().__init__(f"{name}: {why}")
        self.name = name
        self.why = why


class BadPaper(GuardError):
    """A paper that does not show that a net is selective."""

    def __init__(self, why):
        super().__init__(f"{why}")
        self.why = why


class BadRoom(GuardError):
    """A thing that is no room of a net."""

    def __init__(self, name, why):
        super().__init__(f"{name}: {why}")
        self.name = name
        self.why = why
