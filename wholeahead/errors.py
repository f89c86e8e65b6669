"""The refusals, one class for each."""


class TableError(ValueError):
    pass


class BadTable(TableError):
    pass


class BadSquare(TableError):
    pass


class BadThing(TableError):
    pass
