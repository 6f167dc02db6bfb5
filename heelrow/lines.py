"""Lines: a web and a row that are kept, and changed by deeds which can be taken back."""

from heelrow.errors import Full, NoBack, NoDeed
from heelrow.piles import piled
from heelrow.rows import called, check_row, check_web

MOST_DEEDS = 2000


def is_deed(thing):
    """Whether a thing of any kind is written as a DEED."""
    if not isinstance(thing, tuple) or not 2 <= len(thing) <= 3:
        return False
    if not isinstance(thing[0], str) or not isinstance(thing[1], str):
        return False
    if len(thing) == 2:
        return thing[0] in ("call", "part")
    return thing[0] in ("join", "turn") and (thing[2] is None or isinstance(thing[2], str))


def behind_deed(web, row, deed):
    """The web and the ROW behind a DEED; refused as `called`, `joined`, `parted`, `turned` do."""
    if not is_deed(deed):
        raise NoDeed(deed)
    word, name = deed[:2]
    if word == "call":
        return (web, called(web, row, name))
    if word == "part":
        return (web.parted(name), tuple([other for other in row if other != name]))
    if word == "join":
        return (web.joined(name, deed[2]), (*row, name))
    return (web.turned(name, deed[2]), row)


class Line:
    """A web and a ROW, changed by deeds."""

    def __init__(self, web, row):
        check_web(web)
        check_row(web, row)
        self.deeds = []
        # The web and the ROW at first, and behind each deed.
        self.states = [(web, row)]

    def __eq__(self, other):
        return isinstance(other, Line) and self.states[-1] == other.states[-1]

    def __len__(self):
        return len(self.deeds)

    def __str__(self):
        return " ".join(self.states[-1][1])

    def __repr__(self):
        return f"Line({len(self.deeds)})"

    def do(self, deed):
        """Do a DEED."""
        self.do_all((deed,))

    def do_all(self, deeds):
        """Do all DEEDs in turn, or none of them."""
        if not isinstance(deeds, tuple):
            raise NoDeed(deeds)
        web, row = self.states[-1]
        states = []
        for deed in deeds:
            web, row = behind_deed(web, row, deed)
            if len(self.deeds) + len(states) >= MOST_DEEDS:
                raise Full(MOST_DEEDS)
            states.append((web, row))
        # Nothing is kept before all deeds are known to be taken.
        self.states.extend(states)
        self.deeds.extend(list(deeds))

    def back(self):
        """Take the last deed back."""
        if not self.deeds:
            raise NoBack("no deed is left to take back")
        self.deeds.pop()
        self.states.pop()

    def web(self):
        """The web as it stands."""
        return self.states[-1][0]

    def now(self):
        """The ROW as it stands."""
        return self.states[-1][1]

    def log(self):
        """The deeds that aren't taken back."""
        return tuple(self.deeds)

    def piles(self):
        """The PILES of the calls behind the last deed that is none."""
        calls = []
        for deed in self.deeds:
            if deed[0] == "call":
                calls.append(deed[1])
            else:
                calls = []
        return piled(self.web(), calls)
