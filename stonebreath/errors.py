"""The refusals: one class for each, all of them straight under StoneError."""


class StoneError(ValueError):
    pass


class NoBoard(StoneError):
    pass


class NoStand(StoneError):
    pass


class NoLay(StoneError):
    pass


class NoBreath(StoneError):
    pass


class Again(StoneError):
    def __init__(self, number):
        StoneError.__init__(self, f"the stand came already at moment {number}")
        self.number = number


class Over(StoneError):
    pass


class NoBack(StoneError):
    pass


class TooMuch(StoneError):
    pass


class NoText(StoneError):
    def __init__(self, line):
        StoneError.__init__(self, f"no game's text, from line {line} on")
        self.line = line


class NoRow(StoneError):
    pass


class NoPoint(StoneError):
    pass
