"""What several tests share: sample webs, wrong things, and how a refusal is looked at."""

import itertools
import random
from fractions import Fraction

from heelrow import errors
from heelrow.lines import Line
from heelrow.webs import Web

BASES = ("HeelError", "WhoError", "RoomError")

FIELDS = {
    "NoWeb": "place", "NoText": "row", "NoRow": "place", "NoCalls": "place", "NoPiles": "place",
    "NoWish": "place", "NoCount": "many", "NoWeights": "place", "NoTorn": "place", "NoBook": "place",
    "NoNumber": "number", "NoRest": "rest", "NoDeed": "deed", "NoSay": "row",
    "NoName": "name", "NoNew": "name", "Leads": "name", "Followed": "name", "Alone": None,
    "Ring": "name", "Same": "name", "Barred": "bar", "NoWay": None, "Untold": None, "NoBack": None,
    "TooMany": "many", "Full": "many",
}

# Each is a web's persons; between them: one alone, chains, stars, several who lead, all who lead, twelve.
ALONE = (("a", None),)
CHAIN = (("a", None), ("b", "a"), ("c", "b"), ("d", "c"))
UPCHAIN = (("a", "b"), ("b", "c"), ("c", "d"), ("d", None))
STAR = (("a", "mid"), ("b", "mid"), ("mid", None), ("z", "mid"))
SEVERAL = (("ann", None), ("bob", "ann"), ("cy", "bob"), ("dee", "ann"), ("eve", None), ("fay", "eve"), ("gus", None))
LEADERS = (("a", None), ("aa", None), ("ab", None), ("abcdef", None))
TWELVE = tuple(("abcdefghijkl"[k], "abcdefghijkl"[k - 1] if k else None) for k in range(12))
TWELVE_STAR = tuple((name, None if name == "f" else "f") for name in "abcdefghijkl")
SAMPLES = (ALONE, CHAIN, UPCHAIN, STAR, SEVERAL, LEADERS, TWELVE, TWELVE_STAR)


class Odd:
    """A thing of no kind that the program knows."""


def wrong_names():
    """Things of many kinds, none of which is a NAME."""
    return [
        "", "abcdefg", "A", "Ann", "aB", "a1", "1", "a b", " a", "a ", " ", "a\n", "\na", "\n", "a-b", "a_b", "_",
        "a>b", "a > b", "{", "`", "~", "a" * 4000, 0, 1, -1, 10 ** 6000, True, False, [], ["a"], (), ("a",), ("a", None),
        (("a",),), {}, {"a": None}, set(), frozenset("a"), b"a", bytearray(b"a"), object, Odd(), Web, Web(ALONE),
        [[[[[[[[["a"]]]]]]]]], range(2), len,
    ]


def refusal(test, name, deed):
    """The refusal that `deed` ends in, which must be of just the class of that name."""
    try:
        deed()
    except (errors.HeelError, errors.WhoError, errors.RoomError) as e:
        test.assertEqual(type(e).__name__, name)
        test.assertIs(type(e), getattr(errors, name))
        return e
    test.fail(f"nothing was refused, {name} was due")


def naive_above(persons, name):
    """Who is above NAME, read off the persons alone."""
    whom = dict(persons)[name]
    return () if whom is None else (whom,) + naive_above(persons, whom)


def small_webs(letters):
    """The persons of every web of these letters, in which each follows any one or leads."""
    found = [()]
    for name in letters:
        found = [row + ((name, whom),) for row in found for whom in (None,) + tuple(letters) if whom != name]
    return [row for row in found if not has_ring(row)]


def has_ring(persons):
    """Whether somebody never comes to one who leads."""
    left = dict(persons)
    while True:
        done = [name for name in left if left[name] not in left]
        if not done:
            return bool(left)
        left = {name: left[name] for name in left if name not in done}


def wrong_kinds():
    """Things of many kinds, none of which is a tuple, a text that is a NAME, or a Web."""
    return [
        None, True, False, 0, 1, -1, 7, 10 ** 6000, "", "zz top", "a, b", [], ["a"], ["a", "b", "c", "d"],
        [("a",), ("b",)], {}, {"a": None}, {"a": "b", "b": "a"}, set(), frozenset("ab"), b"ab", bytearray(b"a"),
        range(4), Odd(), Web, len, [[[[[[[[["a"]]]]]]]]], {"a": [{"b": ("c",)}]},
    ]


def wrong_webs():
    """(thing, class, field) of things that are no Web."""
    return [(thing, "NoWeb", None) for thing in wrong_kinds() + ["a", (), CHAIN, ALONE, (("a", "b"),), "a\nb > a"]]


def wrong_rows():
    """(thing, class, place) of things that are no ROW of CHAIN, nor of STAR."""
    found = [(thing, None) for thing in wrong_kinds() + ["a", "abcd", Web(CHAIN)]]
    found += [((), None), (("a",), None), (("b", "a"), None), (("a", "b", "no"), 2), (("no",), 0), ((None,), 0)]
    found += [(("a", "b", "a", "a"), 2), (("a", "a"), 1), (("b", "b", "no", "a"), 1), (("a", 1, "a"), 1), ((1, 1), 0)]
    found += [(("a", True, "b", "b"), 1), ((("a", "b"),), 0), (("a", ["b"], "b"), 1), (("b", {}, "a", "a"), 1)]
    found += [(("a", "b", "B"), 2), (("a", "b", ""), 2), (("a", set()), 1), ((b"a", "a"), 0), (("a", 10 ** 6000), 1)]
    found += [(("a", "b") * 50000, 2), ((Odd(),) * 3, 0), (("a", "b", ((((((((("c",),),),),),),),),)), 2)]
    return [(thing, "NoRow", place) for thing, place in found]


def wrong_calls():
    """(thing, class, place) of things that are no CALLS of CHAIN."""
    found = [(thing, None) for thing in wrong_kinds() + ["b", "bcd", Web(CHAIN)]]
    found += [(("b",) * 401, None), ((None,) * 401, None), (("a",) + ("b",) * 400, None), ((["b"],) * 5000, None)]
    found += [(("a",), 0), (("b", "a"), 1), (("b", "c", "no", "a"), 2), ((None,), 0), (("b", True), 1), ((0,), 0)]
    found += [(("b",) * 399 + ("a",), 399), (("b",) * 399 + (None,), 399), (("b", ["c"]), 1), ((("b", "c"),), 0)]
    found += [(("d", "c", {}), 2), (("d", "c", set(), 5), 2), ((b"b",), 0), (("d", "D"), 1), (("c", Odd()), 1)]
    return [(thing, "NoCalls", place) for thing, place in found]


def wrong_piles():
    """(thing, class, place) of things that are no PILES of CHAIN."""
    found = [(thing, None) for thing in wrong_kinds() + ["b", "abcd", Web(CHAIN)]]
    found += [((), None), ((("a", "b", "c", "d"),), None), ((("a",), ("b",), ("c",)), None), ((1, 2, 3), None)]
    found += [((("a",), ("b",), ("c",), ("d",), ()), None), (((),) * 4, None), ((("a",), ("b",), ("c",), ()), None)]
    found += [(("a", "b", "c", "d"), 0), ((("a",), ["b"], ("c",), ("d",)), 1), ((("a",), ("b",), None, ("a",)), 2)]
    found += [((("a",), ("b", "no"), 5, 5), 1), ((("a", "a"), ("b",), ("c",), ("d",)), 0), (((), (), (), (1,)), 3)]
    found += [((("a",), ("b",), ("c", "a"), ("d",)), 2), ((("a",), ("b", "b"), ("c",), None), 1), (((), (), (), "d"), 3)]
    found += [((("a", ["b"]), ("b",), ("c",), ("d",)), 0), ((("a",), (("b",),), ("c",), ("d",)), 1)]
    found += [((("a", "b", "c", "d"), (), (), ("zz",)), 3), ((("a", "b", "c", "d"), (), (), ("d",)), 3)]
    found += [((("a", {}), (), (), ()), 0), ((("a", True), (), (), ()), 0), (((), None, (), ("a",)), 1)]
    return [(thing, "NoPiles", place) for thing, place in found]


def wrong_wishes():
    """(thing, class, place) of things that are no WISH of CHAIN."""
    found = [(thing, None) for thing in wrong_kinds() + ["b", "abcd", (), Web(CHAIN)]]
    found += [(("no",), 0), (("a", "no"), 1), (("a", "a"), 1), (("a", "b", "c", "d", "a"), 4), ((None,), 0)]
    found += [(("a", None, "a"), 1), (("b", "b", None), 1), ((("a", "b"),), 0), (("a", ["b"]), 1), ((1, 1), 0)]
    found += [(("a", True), 1), (("a", {}, "a"), 1), (("a", "B"), 1), (("d", "c", b"b"), 2), (("d", Odd()), 1)]
    found += [(("a", "b", "c", "d", "e"), 4), (("a",) * 5000, 1), (("a", "b", set(), set()), 2), (("", "a"), 0)]
    return [(thing, "NoWish", place) for thing, place in found]


def wrong_weights():
    """(thing, class, place) of things that are no WEIGHTS of CHAIN."""
    found = [(thing, None) for thing in wrong_kinds() + [(), (1,), (1, 1), (1, 1, 1, 1), (None, None), (0,) * 4]]
    found += [((0, 1, 1), 0), ((1, 1001, 1), 1), ((1, 1, -1), 2), ((1, 1, True), 2), ((False, 0, 0), 0)]
    found += [((1, None, None), 1), (("1", 1, 1), 0), ((1, [1], 1), 1), ((1, 1, (1,)), 2), ((1, {}, 0), 1)]
    found += [((1000, 1000, 10 ** 6000), 2), ((Odd(), 1, 1), 0), ((1, b"1", 1), 1), ((1, 1, set()), 2)]
    return [(thing, "NoWeights", place) for thing, place in found]


def wrong_torn():
    """(thing, class, place) of things that are no TORN row of calls of CHAIN."""
    found = [(thing, None) for thing in wrong_kinds() + ["b", "bcd", Web(CHAIN)]]
    found += [((None,) * 31, None), (("b",) * 31, None), (("a",) * 31, None), ((5,) * 31, None)]
    found += [(("a",), 0), ((None, "a"), 1), (("b", None, "no"), 2), ((None,) * 29 + ("a",), 29), ((0,), 0)]
    found += [((False,), 0), (("b", True), 1), ((None, ["b"]), 1), ((("b",),), 0), ((None, {}, "a"), 1), ((b"b",), 0)]
    found += [(("b", "c", "D"), 2), ((None, Odd()), 1), ((None, ""), 1), ((None, set(), "a"), 1), (((None,), "a"), 0)]
    return [(thing, "NoTorn", place) for thing, place in found]


def wrong_books():
    """(thing, class, place) of things that are no BOOK."""
    good, long = ("a", "b", "c"), tuple("abcdefghijklm")
    found = [(thing, None) for thing in wrong_kinds() + ["a", "abc", (), Web(CHAIN)]]
    found += [((good,) * 41, None), ((5,) * 41, None), ((None,) * 5000, None), ((("a",), []) * 30, None)]
    found += [(((),), 0), ((good, ()), 1), ((long,), 0), ((long[:12], long[:12], long), 2), (("a", "b"), 0), ((5,), 0)]
    found += [((good, ["a", "b", "c"]), 1), ((good, good, None, 5), 2), ((good, ("a", "b")), 1), ((["a"], ()), 0)]
    found += [((good, ("a", "b", "d")), 1), ((good, ("a", "b", "b")), 1), ((("a", "a"), good), 0), ((good, (good,)), 1)]
    found += [((good, ("a", "b", "c", "d")), 1), ((("a", "B"), good), 0), ((("a", None),), 0), (((1, 2), (2, 1)), 0)]
    found += [((good, ("c", "b", True)), 1), ((("a", ""),), 0), ((good, good, ("a", ["b"], "c")), 2), ((({},),), 0)]
    found += [((good,) * 39 + (("c", "b"),), 39), ((good,) * 39 + ("abc",), 39), ((good, {"a": 1, "b": 2, "c": 3}), 1)]
    found += [((("a", 10 ** 6000),), 0), ((good, (b"a", "b", "c")), 1), (((Odd(),),), 0), ((good, good, (set(),)), 2)]
    return [(thing, "NoBook", place) for thing, place in found]


def wrong_deeds():
    """Things that are not written as a DEED is."""
    found = wrong_kinds() + ["a", "call b", "call", (), ("call",), ("call", "b", None), ("call", "b", "a"), ("back",)]
    found += [("part",), ("part", "d", None), ("join", "x"), ("join", "x", "a", "a"), ("turn", "b"), ("turn",)]
    found += [("Call", "b"), ("calls", "b"), ("", "b"), (None, "b"), (1, "b"), (True, "b"), (["call"], "b"), ("row", "b")]
    found += [("call", None), ("call", 1), ("call", ["b"]), ("call", ("b",)), ("call", b"b"), ("part", {}), ("part", 0)]
    found += [("join", None, None), ("join", 5, "a"), ("join", "x", 0), ("join", "x", False), ("join", "x", ["a"])]
    found += [("turn", "b", ()), ("turn", "b", b"a"), ("turn", True, None), ("turn", {}, "a"), ("join", "x", Odd())]
    found += [["call", "b"], ["turn", "b", None], (("call", "b"),), ("call", "b", "c", "d"), {"call": "b"}, ("turn", 1, 1)]
    return found


def wrong_names_of(web):
    """(thing, class, thing) of things that are no NAME of the web."""
    return [(thing, "NoName", thing) for thing in wrong_names() + [None, "no", "zz"] if thing not in web.names()]


def wrong_wholes(name, low, high):
    """(thing, class, thing) of things that are no whole number from LOW to HIGH."""
    found = [True, False, None, "1", "", [], [1], (), (1,), {}, {1: 1}, b"1", Odd(), Web(CHAIN), len, set(), "a"]
    return [(thing, name, thing) for thing in found + [low - 1, low - 2, high + 1, -10 ** 40, 10 ** 40, 10 ** 6000]]


def frozen(thing):
    """What can be told of a thing by which a change in it is seen."""
    if isinstance(thing, Web):
        return ("Web", thing.persons)
    if isinstance(thing, Line):
        return ("Line", thing.web().persons, thing.now(), thing.log())
    if isinstance(thing, (list, tuple)):
        return (type(thing), [frozen(one) for one in thing])
    if isinstance(thing, dict):
        return ("dict", [(frozen(key), frozen(thing[key])) for key in thing])
    if isinstance(thing, (set, bytearray)):
        return (type(thing), sorted(thing))
    return ("itself", id(thing))


def check_refused(test, function, given, name, field):
    """Each way to hand in the arguments is refused by this class, with this field, and changes nothing."""
    was = frozen(given)
    told = refusal(test, name, lambda: function(**given))
    if FIELDS[name] is not None:
        test.assertIs(type(getattr(told, FIELDS[name])), type(field), (name, list(given)))
        test.assertEqual(getattr(told, FIELDS[name]), field)
    under = [base for base in BASES if isinstance(told, getattr(errors, base))]
    test.assertEqual(len(under), 1)
    test.assertEqual(frozen(given), was)


def check_refusals(test, function, good, wrong):
    """GOOD are arguments by name, from the left, that are taken; WRONG are (name, [(thing, class, field)]).

    Each wrong thing is handed in alone, and beside wrong ones for arguments further right: the left one is refused.
    """
    function(**good)
    for at, (argument, things) in enumerate(wrong):
        for thing, name, field in things:
            check_refused(test, function, {**good, argument: thing}, name, field)
        for other, more in wrong[at + 1:]:
            for k in range(max(len(things), len(more))):
                thing, name, field = things[k % len(things)]
                given = {**good, argument: thing, other: more[k % len(more)][0]}
                check_refused(test, function, given, name, field)
        all_wrong = {other: more[-1][0] for other, more in wrong[at:]}
        check_refused(test, function, {**good, **all_wrong}, things[-1][1], things[-1][2])


def check_last(test, function, tight, wrong, many):
    """TIGHT are arguments that are refused by TooMany alone; beside each wrong thing that one is refused instead."""
    check_refused(test, function, tight, "TooMany", many)
    for argument, things in wrong:
        for thing, name, field in things:
            check_refused(test, function, {**tight, argument: thing}, name, field)


def check_told(test, function, given, want, **named):
    """By place and by their names, and again, the same is told, and what was handed in stays as it was.

    NAMED are handed in by their names alone.
    """
    was = frozen(given)
    back = dict(reversed(list(given.items())))
    for told in (function(*given.values(), **named), function(**given, **named), function(**named, **back)):
        test.assertEqual(told, want)
        test.assertIs(type(told), type(want))
    test.assertEqual(frozen(given), was)


def drawn_web(chance, many):
    """A web of so many persons that came of joined, turned and parted."""
    names = chance.sample(["a", "aa", "ab", "b", "bo", "cy", "dee", "e", "fay", "g", "hal", "i", "jo", "kit", "zz"], many)
    web = Web(((names[0], None),))
    for name in names[1:]:
        web = web.joined(name, chance.choice(web.names() + (None,)))
    for step in range(chance.randrange(3)):
        name = chance.choice(web.names())
        free = [whom for whom in web.names() if whom != name and whom not in web.below(name)]
        web = web.turned(name, chance.choice(free + [None]))
    if many < 12:
        web = web.joined("x", chance.choice(web.names() + (None,))).parted("x")
    return web


def drawn_webs(seed, each):
    """EACH webs of one to twelve persons, and the samples."""
    chance = random.Random(seed)
    return [Web(persons) for persons in SAMPLES] + [drawn_web(chance, many) for many in range(1, 13) for k in range(each)]


def drawn_row(chance, web):
    return tuple(chance.sample(web.names(), len(web)))


def drawn_calls(chance, web, many):
    return tuple(chance.choice(web.callable()) for k in range(many)) if web.callable() else ()


def all_rows(web):
    """Every ROW of a small web, rising."""
    return list(itertools.permutations(web.names()))


def all_piles(web):
    """Every PILES of a small web."""
    many = len(web)
    found = []
    for row in all_rows(web):
        for cuts in itertools.combinations_with_replacement(range(many + 1), many - 1):
            ends = (0,) + cuts + (many,)
            found.append(tuple(row[ends[k]:ends[k + 1]] for k in range(many)))
    return sorted(set(found))


def plain_called(web, row, name):
    """The row behind a call, reckoned by stepping out and in."""
    row = list(row)
    row.remove(name)
    row.insert(row.index(dict(web.persons)[name]) + 1, name)
    return tuple(row)


def plain_done(web, row, calls):
    for name in calls:
        row = plain_called(web, row, name)
    return row


def plain_laid(web, row, piles):
    names = [name for name, whom in web.persons]
    return sum((piles[names.index(name)] for name in row), ())


def plain_follows(web):
    """Who follows, read off the persons."""
    return [name for name, whom in web.persons if whom is not None]


def comes_from(web, row):
    """All rows that come from a ROW by any calls, itself too."""
    found = {row}
    left = [row]
    while left:
        at = left.pop()
        for name in plain_follows(web):
            told = plain_called(web, at, name)
            if told not in found:
                found.add(told)
                left.append(told)
    return found


def stands_so(row, wish):
    """Whether the wish stands in its turn in a row."""
    return [name for name in row if name in wish] == list(wish)


def plain_move(web, stand, name):
    """What comes of a move, read off the STAND's signs; None where it can't be done."""
    whom = dict(web.persons)[name]
    if whom in stand:
        last = max(k for k, one in enumerate(stand) if one == whom)
        first = min(k for k, one in enumerate(stand) if one == name)
        if first != last + 1:
            return None
    return tuple(whom if one == name else one for one in stand)


def plain_stands(web, wish):
    """All STANDs that come of a wish."""
    found = {wish}
    left = [wish]
    while left:
        stand = left.pop()
        for name in set(stand) & set(plain_follows(web)):
            after = plain_move(web, stand, name)
            if after is not None and after not in found:
                found.add(after)
                left.append(after)
    return tuple(sorted(found))


def plain_has(row, stand):
    """Whether a row has a STAND."""
    return stands_so(row, tuple(dict.fromkeys(stand)))


def drawn_wish(chance, web, many):
    return tuple(chance.sample(web.names(), min(many, len(web))))


def all_wishes(web):
    """Every WISH of a small web."""
    return [wish for many in range(1, len(web) + 1) for wish in itertools.permutations(web.names(), many)]


def steps_from(web, row):
    """For each row that comes from a row how few calls lead to it."""
    found = {row: 0}
    level = [row]
    while level:
        fresh = []
        for at in level:
            for name in plain_follows(web):
                told = plain_called(web, at, name)
                if told not in found:
                    found[told] = found[at] + 1
                    fresh.append(told)
        level = fresh
    return found


def drawn_weights(chance, web):
    most = chance.choice((1, 3, 50, 1000))
    return tuple(chance.randint(1, most) for name in web.callable())


def plain_share(web, row, weights, wish):
    """The share by the rule for STANDs, word by word."""
    weight = dict(zip(plain_follows(web), weights))
    known = {}

    def of(stand):
        if stand not in known:
            can = [name for name in dict.fromkeys(stand) if name in weight]
            parts = [(name, plain_move(web, stand, name)) for name in can]
            whole = sum(weight[name] for name in can)
            known[stand] = Fraction(plain_has(row, stand)) if not can else sum(
                (Fraction(weight[name], whole) * of(after) for name, after in parts if after is not None), Fraction(0))
        return known[stand]

    return of(wish)


def as_pair(fraction):
    """A Fraction as the program tells one."""
    return (fraction.numerator, fraction.denominator)


def drawn_torn(chance, web, many, unread):
    """A torn row of calls of which about UNREAD in ten can't be read."""
    follow = plain_follows(web)
    return tuple(None if not follow or chance.randrange(10) < unread else chance.choice(follow) for k in range(many))


def plain_readings(web, row, wish, torn):
    """All readings behind which the wish stands, gone through one by one."""
    sets = [plain_follows(web) if name is None else [name] for name in torn]
    return [calls for calls in itertools.product(*sets) if stands_so(plain_done(web, row, calls), wish)]


def home_of(web):
    """The piles of no calls."""
    return tuple((name,) for name in web.names())


def one_more(web, some, name):
    """The piles with one call more, at the front of the calls."""
    at = dict(zip(web.names(), some))
    whom = web.whom(name)
    at[whom], at[name] = at[whom] + at[name], ()
    return tuple(at[one] for one in web.names())


def plain_comes(web):
    """All piles of a small web that come, each with how few calls lay them, and how many such rows of calls."""
    found = {home_of(web): (0, 1)}
    level = [home_of(web)]
    while level:
        fresh = {}
        for some in level:
            for name in plain_follows(web):
                more = one_more(web, some, name)
                if more not in found:
                    fresh[more] = fresh.get(more, 0) + found[some][1]
        for more in fresh:
            found[more] = (found[level[0]][0] + 1, fresh[more])
        level = list(fresh)
    return found


def plain_bars(web, some):
    """All that bars the piles, word by word as told."""
    stand = {name: at for at, pile in zip(web.names(), some) for name in pile}
    above = {name: naive_above(web.persons, name) for name in web.names()}
    found = [("stray", name) for name in web.names() if stand[name] not in (name,) + above[name]]
    pairs = [(high, low) for low in web.names() for high in above[low]]
    found += [("below", *pair) for pair in pairs if stand[pair[0]] not in (stand[pair[1]],) + above[stand[pair[1]]]]
    row = sum(some, ())
    found += [("turn", *pair) for pair in pairs
              if stand[pair[0]] == stand[pair[1]] and row.index(pair[0]) > row.index(pair[1])]
    return found


def plain_runs(web, some):
    found = []
    for name in plain_follows(web):
        many = 0
        for at, pile in zip(web.names(), some):
            if at in naive_above(web.persons, name):
                signs = "".join("x" if name in (one,) + naive_above(web.persons, one) else "." for one in pile)
                many += len([part for part in signs.split(".") if part])
        found.append((name, many))
    return tuple(found)


def drawn_piles(chance, web):
    """Piles of a web that calls may lay or not."""
    row = drawn_row(chance, web)
    cuts = sorted(chance.randrange(len(web) + 1) for k in range(len(web) - 1))
    ends = [0] + cuts + [len(web)]
    return tuple(row[ends[k]:ends[k + 1]] for k in range(len(web)))


def drawn_book(chance, web, many):
    """A book of so many rows that drawn calls of the web make."""
    book = [drawn_row(chance, web)]
    for name in drawn_calls(chance, web, many - 1):
        book.append(plain_called(web, book[-1], name))
    return tuple(book)


def loose_book(chance, names, many):
    """A book of so many rows in each of which two neighbours change places, or one steps anywhere, or nobody does."""
    row = chance.sample(list(names), len(names))
    book = [tuple(row)]
    while len(book) < many:
        at = chance.randrange(len(row))
        one = row.pop(at)
        row.insert(chance.choice((at, at + 1, at + 1, chance.randrange(len(row) + 1))), one)
        book.append(tuple(row))
    return tuple(book)


def plain_steps(book):
    """For each step all (X, Y), by stepping out and in."""
    found = []
    for row, after in zip(book, book[1:]):
        ways = []
        for one in sorted(row):
            rest = [name for name in row if name != one]
            for at, whom in enumerate(rest):
                if tuple(rest[:at + 1] + [one] + rest[at + 1:]) == after:
                    ways.append((one, whom))
        found.append(tuple(sorted(ways)))
    return tuple(found)


def plain_tells(persons, book):
    whoms = dict(persons)
    return sorted(whoms) == sorted(book[0]) and all(
        any(whoms[one] == whom for one, whom in ways) for ways in plain_steps(book))


def plain_clash(taken):
    """Whether by those taken somebody follows two, or comes to themselves."""
    whoms = dict(taken)
    return len(set(taken)) > len(whoms) or has_ring(tuple(whoms.items()))


def plain_tree(ways, tree, taken=(), used=()):
    """Whether a tree is one, word by word as told."""
    if tree is None:
        return plain_clash(taken)
    if type(tree) is not tuple or len(tree) != 2 or type(tree[0]) is not int or type(tree[1]) is not tuple:
        return False
    number, trees = tree
    if number in used or not 0 <= number < len(ways) or len(trees) != len(ways[number]):
        return False
    return all(plain_tree(ways, one, taken + (way,), used + (number,)) for one, way in zip(trees, ways[number]))
