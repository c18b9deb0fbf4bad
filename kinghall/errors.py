"""The refusals: one class for each of them, all under HallError."""


class HallError(ValueError):
    pass


class NoHall(HallError):
    pass


class NoPlayer(HallError):
    pass


class NoRing(HallError):
    pass


class NoRow(HallError):
    pass


class Unlike(HallError):
    pass


class NoNote(HallError):
    pass
