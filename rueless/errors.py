"""The errors of the package, each for one kind of failure."""


class RuelessError(Exception):
    """The base class of all errors here but those that are KeyErrors."""


class BadTrade(RuelessError):
    def __init__(self, at):
        self.at = at


class BadHouse(RuelessError):
    def __init__(self, at):
        self.at = at


class BadRow(RuelessError):
    def __init__(self, at):
        self.at = at


class BadText(RuelessError):
    def __init__(self, at):
        self.at = at


class BadWants(RuelessError):
    def __init__(self, at):
        self.at = at


class BadShape(RuelessError):
    def __init__(self, at):
        self.at = at


class BadRanking(RuelessError):
    def __init__(self, at):
        self.at = at


class BadLooks(RuelessError):
    def __init__(self, at):
        self.at = at


class BadOrder(RuelessError):
    def __init__(self, at):
        self.at = at


class BadMachine(RuelessError):
    def __init__(self, at):
        self.at = at


class BadWord(RuelessError):
    def __init__(self, at):
        self.at = at


class BadSizes(RuelessError):
    def __init__(self, kind):
        self.kind = kind


class BadPrices(RuelessError):
    def __init__(self, at):
        self.at = at


class PaperFault(RuelessError):
    def __init__(self, at):
        self.at = at


class Refused(RuelessError):
    def __init__(self, at):
        self.at = at


class NotRueless(RuelessError):
    def __init__(self, kind, p, q):
        self.kind = kind
        self.p = p
        self.q = q


class CannotTake(RuelessError):
    def __init__(self, kind):
        self.kind = kind


class TooGreat(RuelessError):
    def __init__(self, most):
        self.most = most


class NoLetter(KeyError):
    def __init__(self, letter):
        self.letter = letter


class NoStand(KeyError):
    def __init__(self, stand):
        self.stand = stand


class NoRoom(KeyError):
    def __init__(self, room):
        self.room = room
