"""What several tests share: sample webs, wrong things, and how a refusal is looked at."""

from heelrow import errors
from heelrow.webs import Web

BASES = ("HeelError", "WhoError", "RoomError")

FIELDS = {
    "NoWeb": "place", "NoText": "row", "NoRow": "place", "NoCalls": "place", "NoPiles": "place",
    "NoWish": "place", "NoCount": "many", "NoWeights": "place", "NoTorn": "place", "NoBook": "place",
    "NoNumber": "number", "NoRest": "rest", "NoDeed": "deed", "NoSay": "row",
    "NoName": "name", "NoNew": "name", "Leads": "name", "Followed": "name", "Alone": None,
    "Ring": "name", "Same": "name", "Barred": "bar", "NoWay": None, "Untold": None, "NoBack": None,
    "TooMany": "many", "Full": "many",
}

# Each is a web's persons; between them: one alone, chains, stars, several who lead, all who lead, twelve.
ALONE = (("a", None),)
CHAIN = (("a", None), ("b", "a"), ("c", "b"), ("d", "c"))
UPCHAIN = (("a", "b"), ("b", "c"), ("c", "d"), ("d", None))
STAR = (("a", "mid"), ("b", "mid"), ("mid", None), ("z", "mid"))
SEVERAL = (("ann", None), ("bob", "ann"), ("cy", "bob"), ("dee", "ann"), ("eve", None), ("fay", "eve"), ("gus", None))
LEADERS = (("a", None), ("aa", None), ("ab", None), ("abcdef", None))
TWELVE = tuple(("abcdefghijkl"[k], "abcdefghijkl"[k - 1] if k else None) for k in range(12))
TWELVE_STAR = tuple((name, None if name == "f" else "f") for name in "abcdefghijkl")
SAMPLES = (ALONE, CHAIN, UPCHAIN, STAR, SEVERAL, LEADERS, TWELVE, TWELVE_STAR)


class Odd:
    """A thing of no kind that the program knows."""


def wrong_names():
    """Things of many kinds, none of which is a NAME."""
    return [
        "", "abcdefg", "A", "Ann", "aB", "a1", "1", "a b", " a", "a ", " ", "a\n", "\na", "\n", "a-b", "a_b", "_",
        "a>b", "a > b", "{", "`", "~", "a" * 4000, 0, 1, -1, 10 ** 6000, True, False, [], ["a"], (), ("a",), ("a", None),
        (("a",),), {}, {"a": None}, set(), frozenset("a"), b"a", bytearray(b"a"), object, Odd(), Web, Web(ALONE),
        [[[[[[[[["a"]]]]]]]]], range(2), len,
    ]


def refusal(test, name, deed):
    """The refusal that `deed` ends in, which must be of just the class of that name."""
    try:
        deed()
    except (errors.HeelError, errors.WhoError, errors.RoomError) as e:
        test.assertEqual(type(e).__name__, name)
        test.assertIs(type(e), getattr(errors, name))
        return e
    test.fail(f"nothing was refused, {name} was due")


def naive_above(persons, name):
    """Who is above NAME, read off the persons alone."""
    whom = dict(persons)[name]
    return () if whom is None else (whom,) + naive_above(persons, whom)


def small_webs(letters):
    """The persons of every web of these letters, in which each follows any one or leads."""
    found = [()]
    for name in letters:
        found = [row + ((name, whom),) for row in found for whom in (None,) + tuple(letters) if whom != name]
    return [row for row in found if not has_ring(row)]


def has_ring(persons):
    """Whether somebody never comes to one who leads."""
    left = dict(persons)
    while True:
        done = [name for name in left if left[name] not in left]
        if not done:
            return bool(left)
        left = {name: left[name] for name in left if name not in done}
