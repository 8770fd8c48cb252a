"""The refusals, one class for each, all under WayError and none under another one."""


class WayError(ValueError):
    pass


class NoHouse(WayError):
    pass


class Twice(WayError):
    pass


class NoAmount(WayError):
    pass


class TooLow(WayError):
    pass


class NoChain(WayError):
    pass


class NoRoom(WayError):
    pass


class TooMuch(WayError):
    pass


class NoWish(WayError):
    pass


class StillOwes(WayError):
    pass


class TooMany(WayError):
    pass


class NoRow(WayError):
    pass
