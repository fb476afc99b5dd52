"""The errors of the package. Each one that takes a value keeps it under the name of its parameter."""


class JobError(ValueError):
    """An argument is not what it has to be. It takes a message."""


class InvalidJob(JobError):
    """A value is not a job, or not a definition."""


class InvalidAddress(JobError):
    """A value is not an address of a job."""


class InvalidState(JobError):
    """A value is not a state of a job."""


class InvalidRun(JobError):
    """A value is not a run of a job."""


class InvalidValleys(JobError):
    """A value is not valleys, or not start valleys."""


class InvalidProfile(JobError):
    """A value is not a profile."""


class InvalidPlan(JobError):
    """A value is not a plan, or not a chain."""


class InvalidContext(JobError):
    """A value is not a context."""


class InvalidChoice(JobError):
    """A value is not a choice of a job."""


class InvalidOperation(JobError):
    """An operation cannot be done now."""


class InvalidExpression(JobError):
    """A value is not an expression."""


class InvalidPaper(JobError):
    """A value is not a paper."""


class ParseError(JobError):
    """A value is not a text of what is to be parsed."""


class InvalidCommand(JobError):
    """A value is not a command."""


class UnknownName(KeyError):
    """A value is not a name, or a name is not known."""

    def __init__(self, name):
        self.name = name


class NameConflict(LookupError):
    """A name is taken."""

    def __init__(self, name):
        self.name = name


class InvalidNumber(IndexError):
    """A value is not an integer, or not one within its limits."""

    def __init__(self, value):
        self.value = value


class TooMany(OverflowError):
    """Something has more parts than the limit."""

    def __init__(self, limit):
        self.limit = limit


class NotEnough(RuntimeError):
    """A capacity does not do; `least` is the least one that would."""

    def __init__(self, least):
        self.least = least
