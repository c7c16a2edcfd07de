"""The refusals, one class for each."""


class OnceError(ValueError):
    pass


class NoText(OnceError):
    def __init__(self, row):
        OnceError.__init__(self, f"row {row} is none of a box")
        self.row = row


class NoCovering(OnceError):
    pass


class TooMany(OnceError):
    pass


class NoThing(OnceError):
    pass


class NoPiece(OnceError):
    pass


class NoWeight(OnceError):
    pass


class NoOrder(OnceError):
    pass


class Held(OnceError):
    pass


class NoDeed(OnceError):
    pass


class NoRow(OnceError):
    pass
