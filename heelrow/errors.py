"""Every refusal of the program, each under one of three bases.

Messages never show what was handed in: it may be of any kind, and some things
(a number of many thousand digits) cannot be shown.
"""


class HeelError(ValueError):
    """What was handed in is not as it must be written."""


class WhoError(LookupError):
    """What was asked for is not there, or cannot be done by these persons."""


class RoomError(ArithmeticError):
    """There is more than there is room for."""


class NoWeb(HeelError):
    """These persons make no web."""

    def __init__(self, place):
        HeelError.__init__(self, "these persons make no web")
        self.place = place


class NoText(HeelError):
    """This text tells no web."""

    def __init__(self, row):
        HeelError.__init__(self, "this text tells no web")
        self.row = row


class NoRow(HeelError):
    """This is no row of the web."""

    def __init__(self, place):
        HeelError.__init__(self, "this is no row of the web")
        self.place = place


class NoCalls(HeelError):
    """These are no calls of the web."""

    def __init__(self, place):
        HeelError.__init__(self, "these are no calls of the web")
        self.place = place


class NoPiles(HeelError):
    """These are no piles of the web."""

    def __init__(self, place):
        HeelError.__init__(self, "these are no piles of the web")
        self.place = place


class NoWish(HeelError):
    """This is no wish of the web."""

    def __init__(self, place):
        HeelError.__init__(self, "this is no wish of the web")
        self.place = place


class NoCount(HeelError):
    """This is no number that may be asked for here."""

    def __init__(self, many):
        HeelError.__init__(self, "this is no number that may be asked for here")
        self.many = many


class NoWeights(HeelError):
    """These are no weights of the web."""

    def __init__(self, place):
        HeelError.__init__(self, "these are no weights of the web")
        self.place = place


class NoTorn(HeelError):
    """This is no torn row of calls of the web."""

    def __init__(self, place):
        HeelError.__init__(self, "this is no torn row of calls of the web")
        self.place = place


class NoBook(HeelError):
    """This is no book of rows."""

    def __init__(self, place):
        HeelError.__init__(self, "this is no book of rows")
        self.place = place


class NoNumber(HeelError):
    """No rest has this number."""

    def __init__(self, number):
        HeelError.__init__(self, "no rest has this number")
        self.number = number


class NoRest(HeelError):
    """This is no rest of the row."""

    def __init__(self, rest):
        HeelError.__init__(self, "this is no rest of the row")
        self.rest = rest


class NoDeed(HeelError):
    """This is no deed as deeds are written."""

    def __init__(self, deed):
        HeelError.__init__(self, "this is no deed as deeds are written")
        self.deed = deed


class NoSay(HeelError):
    """The desk knows no such row of words."""

    def __init__(self, row):
        HeelError.__init__(self, "the desk knows no such row of words")
        self.row = row


class NoName(WhoError):
    """This is no name of the web."""

    def __init__(self, name):
        WhoError.__init__(self, "this is no name of the web")
        self.name = name


class NoNew(WhoError):
    """This is no name, or it stands in the web already."""

    def __init__(self, name):
        WhoError.__init__(self, "this is no name, or it stands in the web already")
        self.name = name


class Leads(WhoError):
    """Who leads cannot be called."""

    def __init__(self, name):
        WhoError.__init__(self, "who leads cannot be called")
        self.name = name


class Followed(WhoError):
    """Who is followed cannot part."""

    def __init__(self, name):
        WhoError.__init__(self, "who is followed cannot part")
        self.name = name


class Alone(WhoError):
    """The only person of a web cannot part."""


class Ring(WhoError):
    """Nobody follows themselves, nor anyone below them."""

    def __init__(self, name):
        WhoError.__init__(self, "nobody follows themselves, nor anyone below them")
        self.name = name


class Same(WhoError):
    """Two unlike persons are wanted."""

    def __init__(self, name):
        WhoError.__init__(self, "two unlike persons are wanted")
        self.name = name


class Barred(WhoError):
    """No calls lay these piles."""

    def __init__(self, bar):
        WhoError.__init__(self, "no calls lay these piles")
        self.bar = bar


class NoWay(WhoError):
    """No calls lead from the one row to the other."""


class Untold(WhoError):
    """No web tells this book."""


class NoBack(WhoError):
    """No deed is left to take back."""


class TooMany(RoomError):
    """There are more of them than may be told."""

    def __init__(self, many):
        RoomError.__init__(self, "there are more of them than may be told")
        self.many = many


class Full(RoomError):
    """There is no room for one more."""

    def __init__(self, many):
        RoomError.__init__(self, "there is no room for one more")
        self.many = many
