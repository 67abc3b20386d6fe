"""The errors of the program, each with its arguments as attributes."""


class StandInError(ValueError):
    """What all errors of the program have above them."""


class BadCheck(StandInError):
    """A line that is not the written form of a check."""

    def __init__(self, line):
        super().__init__(f"not a check: {line!r}")
        self.line = line


class Refused(StandInError):
    """A deed that a thing answered by False."""

    def __init__(self, deed):
        super().__init__(f"refused: {deed!r}")
        self.deed = deed


class BadAnswer(StandInError):
    """An answer that does not have the form of the answers to its deed."""

    def __init__(self, deed, answer):
        # The answer may be anything, also what cannot be written out, as a huge number.
        super().__init__(f"not an answer to {deed!r}")
        self.deed = deed
        self.answer = answer


class Promise(StandInError):
    """The check from which a Lie is raised."""

    def __init__(self, check):
        super().__init__(f"the check is {check!r}")
        self.check = check


class Lie(StandInError):
    """An answer that a check refuses."""

    def __init__(self, deed, answer, check):
        super().__init__(f"{deed!r} was answered {answer!r} against {check!r}")
        self.deed = deed
        self.answer = answer
        self.check = check


class Unfair(StandInError):
    """An event that a book refuses where it is true."""

    def __init__(self, event):
        super().__init__(f"refused, though true: {event!r}")
        self.event = event
