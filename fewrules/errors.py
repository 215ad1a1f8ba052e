"""The errors that the package raises.

Python keeps the arguments of an error as its message, so no class writes one of its own.
"""


class FewrulesError(ValueError):
    """The base class of all errors of the package."""


class TextError(FewrulesError):
    """A text is not as told; line and column, from 1 on, tell where."""

    def __init__(self, line, column, reason):
        self.line = line
        self.column = column
        self.reason = reason


class TooLarge(FewrulesError):
    """A limit is exceeded."""

    def __init__(self, limit):
        self.limit = limit


class InvalidSignature(FewrulesError):
    """Relations make no signature."""

    def __init__(self, reason):
        self.reason = reason


class InvalidWorld(FewrulesError):
    """Constants and facts make no world."""

    def __init__(self, reason):
        self.reason = reason


class InvalidTask(FewrulesError):
    """What is given makes no task, or no task of the kind that is asked for."""

    def __init__(self, reason):
        self.reason = reason


class InvalidBody(FewrulesError):
    """A tuple of numbers is no body of the task."""

    def __init__(self, reason):
        self.reason = reason


class InvalidTheory(FewrulesError):
    """Rules are none of the task, or do not belong together."""

    def __init__(self, reason):
        self.reason = reason


class UnknownExample(FewrulesError):
    """An example is none of those that are asked for."""

    def __init__(self, example):
        self.example = example


class NoTheory(FewrulesError):
    """There is no theory that fits."""


class InvalidLine(FewrulesError):
    """A line or a record has a length or a character that it must not have."""

    def __init__(self, reason):
        self.reason = reason
