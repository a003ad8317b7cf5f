"""The refusals: one class for each thing that can be refused."""


class FairError(ValueError):
    pass


class BadLodging(FairError):
    pass


class BadOrder(FairError):
    pass


class BadMarket(FairError):
    pass


class BadText(FairError):
    pass


class BadFair(FairError):
    def __init__(self, at):
        self.at = at
