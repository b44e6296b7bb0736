"""The refusals: one class for each, all of them under TreeError."""


class TreeError(ValueError):
    pass


class NoName(TreeError):
    pass


class Taken(TreeError):
    pass


class NoHouse(TreeError):
    pass


class NoWare(TreeError):
    pass


class NoAmount(TreeError):
    pass


class NoNumber(TreeError):
    pass


class TooMany(TreeError):
    pass


class TooDeep(TreeError):
    pass


class NoMove(TreeError):
    pass


class NoHold(TreeError):
    pass


class NoDeed(TreeError):
    pass


class NoText(TreeError):
    pass


class NoRow(TreeError):
    pass


class NoPromise(TreeError):
    def __init__(self, house, ware):
        TreeError.__init__(self, f"too much is promised at {house} in {ware}")
        self.house = house
        self.ware = ware


class NoRoom(TreeError):
    def __init__(self, house, ware, holders):
        TreeError.__init__(self, f"there is no room at {house} in {ware}")
        self.house = house
        self.ware = ware
        # A copy, so that what the asker does to the list later is not seen here.
        self.holders = list(holders)
