"""The errors that the package raises."""


class StoreError(ValueError):
    """The base class of all errors of the package."""


# The messages never show the value that an error bears: it may be nested so
# deep that Python cannot write it out.


class BadText(StoreError):
    """A text that cannot be read; line is the number of its first bad line."""

    def __init__(self, line):
        super().__init__("a text that cannot be read")
        self.line = line


class Refused(StoreError):
    """A refused transaction; number is that of its first need that does not hold."""

    def __init__(self, number):
        super().__init__("a need of the transaction does not hold")
        self.number = number


class NotKept(StoreError):
    """A moment that cannot be looked at; wanted is that moment."""

    def __init__(self, wanted):
        super().__init__("a moment that is not kept")
        self.wanted = wanted


class NoSlot(StoreError):
    """Something that is not a slot of the log; slot is that thing."""

    def __init__(self, slot):
        super().__init__("not a slot of the log")
        self.slot = slot


class TooLarge(StoreError):
    """An expression that grew beyond its limits while it was led back."""


class Conflict(StoreError):
    """A session that was told otherwise than at the end; number is that of the event."""

    def __init__(self, number):
        super().__init__("an event of the session has another result")
        self.number = number


class Closed(StoreError):
    """A session that was closed already."""


class BadRow(StoreError):
    """Something that is not a row of the console."""


class NoSession(StoreError):
    """A session that the console does not have; number is the one asked for."""

    def __init__(self, number):
        super().__init__("no session has this number")
        self.number = number
