"""The refusals of the program, each with what it tells of the thing refused."""


class PenError(ValueError):
    pass


class BadRule(PenError):
    def __init__(self, state, sign):
        self.state = state
        self.sign = sign


class BadRow(PenError):
    def __init__(self, state, letter):
        self.state = state
        self.letter = letter


class Copied(PenError):
    def __init__(self, state, letter, box):
        self.state = state
        self.letter = letter
        self.box = box


class NoText(PenError):
    def __init__(self, line):
        self.line = line


class TooMany(PenError):
    def __init__(self, most):
        self.most = most


class NoWayBack(PenError):
    def __init__(self, letter, state):
        self.letter = letter
        self.state = state


class NoName(PenError):
    pass


class NoRow(PenError):
    pass
