"""The refusals of the program: each stands straight beneath TradeError, none beneath another."""


class TradeError(ValueError):
    pass


class TooMany(TradeError):
    pass


class NotSquare(TradeError):
    pass


class NoFraction(TradeError):
    pass


class NoDeed(TradeError):
    pass


class NoLine(TradeError):
    pass


class NoRow(TradeError):
    def __init__(self, hand):
        TradeError.__init__(self, f"hand {hand} has no row of all things, each once")
        self.hand = hand


class NoOwn(TradeError):
    def __init__(self, hand):
        TradeError.__init__(self, f"no owns: hand {hand}")
        self.hand = hand


class NotOwned(TradeError):
    def __init__(self, hand):
        TradeError.__init__(self, f"not all is owned: hand {hand}")
        self.hand = hand


class NoOrder(TradeError):
    def __init__(self, at):
        TradeError.__init__(self, f"no order of all hands, each once: place {at}")
        self.at = at


class NoText(TradeError):
    def __init__(self, at):
        TradeError.__init__(self, f"no text of wishes and owns: part {at}")
        self.at = at


class NoTable(TradeError):
    def __init__(self, why):
        TradeError.__init__(self, f"no table of shares: {why!r}")
        self.why = why
