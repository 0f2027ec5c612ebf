"""The refusals of the program."""


class WindowError(ValueError):
    pass


class NoPlace(WindowError):
    pass


class NoAsk(WindowError):
    pass


class NoField(WindowError):
    def __init__(self, row):
        WindowError.__init__(self, f"line {row} is no row of this field")
        self.row = row


class NoNumber(WindowError):
    def __init__(self, number):
        WindowError.__init__(self, f"{number} can't be put in or taken out")
        self.number = number
