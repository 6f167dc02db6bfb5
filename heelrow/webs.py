"""Webs: who there is, and whom each of them follows."""

from heelrow.bounds import MOST_LETTERS, MOST_PERSONS
from heelrow.errors import Alone, Followed, Full, NoName, NoNew, NoWeb, Ring

LETTERS = "abcdefghijklmnopqrstuvwxyz"


def is_name(thing):
    """Whether a thing of any kind is a NAME: one to six small letters."""
    if not isinstance(thing, str) or not 1 <= len(thing) <= MOST_LETTERS:
        return False
    return all([letter in LETTERS for letter in thing])


def is_person(thing):
    """Whether a thing of any kind is a tuple of a NAME and a NAME or None."""
    if not isinstance(thing, tuple) or len(thing) != 2:
        return False
    name, whom = thing
    return is_name(name) and (whom is None or is_name(whom))


def check_persons(persons):
    """Refuse what is no tuple of one to twelve persons whose names rise."""
    if not isinstance(persons, tuple) or not 1 <= len(persons) <= MOST_PERSONS:
        raise NoWeb(None)
    ahead = ""
    for place, person in enumerate(persons):
        if not is_person(person) or person[0] <= ahead:
            raise NoWeb(place)
        ahead = person[0]


def check_whoms(whoms):
    """Refuse persons who follow someone who isn't there, or never come to one who leads."""
    for place, name in enumerate(whoms):
        whom = whoms[name]
        if whom is not None and whom not in whoms:
            raise NoWeb(place)
    for place, name in enumerate(whoms):
        if not comes_to_leader(whoms, name):
            raise NoWeb(place)


def comes_to_leader(whoms, name):
    """Whether following on and on from NAME ends at one who leads."""
    at = name
    # A way of as many steps as there are persons has met somebody twice.
    for step in range(len(whoms)):
        if whoms[at] is None:
            return True
        at = whoms[at]
    return False


def person_text(name, whom):
    """The row of a web's text for one person."""
    if whom is None:
        return name
    return f"{name} > {whom}"


class Web:
    """Persons, each of whom follows one other or leads; it never changes."""

    def __init__(self, persons):
        check_persons(persons)
        whoms = {name: whom for name, whom in persons}
        check_whoms(whoms)
        self.persons = persons
        self.whoms = whoms

    def __eq__(self, other):
        return isinstance(other, Web) and self.persons == other.persons

    def __len__(self):
        return len(self.persons)

    def __str__(self):
        return "\n".join([person_text(name, whom) for name, whom in self.persons])

    def __repr__(self):
        return f"Web({len(self.persons)})"

    def has(self, thing):
        """Whether a thing of any kind is a NAME of this web."""
        # What is no text may not be fit to be looked up in a dict.
        return is_name(thing) and thing in self.whoms

    def check_name(self, name):
        """Refuse what is no NAME of this web."""
        if not self.has(name):
            raise NoName(name)

    def check_whom(self, whom):
        """Refuse what is neither a NAME of this web nor None."""
        if whom is not None:
            self.check_name(whom)

    def names(self):
        """The names, rising."""
        return tuple([name for name, whom in self.persons])

    def whom(self, name):
        """Whom NAME follows, None where they lead."""
        self.check_name(name)
        return self.whoms[name]

    def leaders(self):
        """Those who lead, rising."""
        return tuple([name for name, whom in self.persons if whom is None])

    def callable(self):
        """Those who follow somebody, rising."""
        return tuple([name for name, whom in self.persons if whom is not None])

    def followers(self, name):
        """Those who follow NAME, rising."""
        self.check_name(name)
        return tuple([other for other, whom in self.persons if whom == name])

    def above(self, name):
        """Whom NAME follows, whom that one follows, and so on."""
        self.check_name(name)
        found = []
        at = self.whoms[name]
        while at is not None:
            found.append(at)
            at = self.whoms[at]
        return tuple(found)

    def below(self, name):
        """All who have NAME above them, rising."""
        self.check_name(name)
        return tuple([other for other in self.names() if name in self.above(other)])

    def high(self):
        """The most that anyone has above them."""
        return max([len(self.above(name)) for name in self.names()])

    def joined(self, name, whom):
        """The web with one more, NAME, who follows WHOM or leads."""
        if not is_name(name) or self.has(name):
            raise NoNew(name)
        self.check_whom(whom)
        if len(self.persons) >= MOST_PERSONS:
            raise Full(MOST_PERSONS)
        return web_of({**self.whoms, name: whom})

    def parted(self, name):
        """The web without NAME."""
        self.check_name(name)
        if self.followers(name):
            raise Followed(name)
        if len(self.persons) == 1:
            raise Alone("the only person of a web cannot part")
        return web_of({other: self.whoms[other] for other in self.whoms if other != name})

    def turned(self, name, whom):
        """The web in which NAME follows WHOM, or leads."""
        self.check_name(name)
        self.check_whom(whom)
        if whom == name or whom in self.below(name):
            raise Ring(whom)
        return web_of({**self.whoms, name: whom})


def web_of(whoms):
    """The web of these names, told with whom each follows, in any turn."""
    return Web(tuple([(name, whoms[name]) for name in sorted(whoms)]))
