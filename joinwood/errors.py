"""The refusals: each a JoinError, none under another one."""


class JoinError(ValueError):
    pass


class NoTable(JoinError):
    pass


class NoWidth(JoinError):
    pass


class NoAnswer(JoinError):
    pass


class NoText(JoinError):
    pass


class NoRow(JoinError):
    pass
