"""The refusals of the program: one class for each, all below YardError."""


class YardError(ValueError):
    pass


class NoPattern(YardError):
    pass


class NoText(YardError):
    pass


class NoRoom(YardError):
    pass
