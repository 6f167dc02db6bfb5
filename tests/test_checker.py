import itertools
import random
import unittest
from fractions import Fraction
from math import gcd

from heelrow.checker import holds
from heelrow.webs import Web
from tests.helper import (
    ALONE, CHAIN, LEADERS, STAR, Odd, all_piles, all_rows, all_wishes, as_pair, drawn_book,
    drawn_calls, drawn_piles, drawn_row, drawn_torn, drawn_web, drawn_webs, drawn_weights, drawn_wish, frozen, has_ring,
    loose_book, plain_bars, plain_comes, plain_done, plain_follows, plain_has, plain_laid, plain_move,
    plain_readings, plain_runs, plain_share, plain_stands, plain_steps, plain_tells, plain_tree, small_webs, stands_so,
    steps_from, wrong_kinds,
)

DCBA = ("d", "c", "b", "a")


# The rules of the checker once more, word by word as the document tells them, by exact kinds.

class NotSo(Exception):
    """Something isn't as told."""


def want(truth):
    if not truth:
        raise NotSo


def want_tuple(thing, low=0, high=10 ** 9):
    want(type(thing) is tuple and low <= len(thing) <= high)


def want_name(thing):
    want(type(thing) is str and 1 <= len(thing) <= 6 and all("a" <= sign <= "z" for sign in thing))


def want_web(thing):
    want_tuple(thing, 1, 12)
    for one in thing:
        want_tuple(one, 2, 2)
        want_name(one[0])
        want(one[1] is None or type(one[1]) is str)
    names = [name for name, whom in thing]
    want(names == sorted(set(names)))
    want(all(whom is None or whom in names for name, whom in thing) and not has_ring(thing))
    return Web(thing)


def want_names(web, thing, low=0, high=10 ** 9):
    want_tuple(thing, low, high)
    for name in thing:
        want_name(name)
        want(name in dict(web.persons))


def want_row(web, thing):
    want_names(web, thing, len(web), len(web))
    want(len(set(thing)) == len(thing))


def want_wish(web, thing):
    want_names(web, thing, 1)
    want(len(set(thing)) == len(thing))


def want_calls(web, thing):
    want_names(web, thing, 0, 400)
    want(set(thing) <= set(plain_follows(web)))


def want_torn(web, thing):
    want_tuple(thing, 0, 30)
    want_calls(web, tuple(name for name in thing if name is not None))


def want_piles(web, thing):
    want_tuple(thing, len(web), len(web))
    for pile in thing:
        want_names(web, pile)
    want(sorted(sum(thing, ())) == [name for name, whom in web.persons])


def want_whole(thing, low, high):
    want(type(thing) is int and low <= thing <= high)


def want_stands(web, wish, thing):
    want_tuple(thing)
    for stand in thing:
        want_names(web, stand, len(wish), len(wish))
    want(all(one < other for one, other in zip(thing, thing[1:])))


def want_fraction(thing):
    want_tuple(thing, 2, 2)
    want_whole(thing[0], 0, 10 ** 9999)
    want_whole(thing[1], 1, 10 ** 9999)
    want(gcd(*thing) == 1)


def want_book(thing):
    want_tuple(thing, 1, 40)
    for row in thing:
        want_tuple(row, 1, 12)
        for name in row:
            want_name(name)
        want(len(set(row)) == len(row) and set(row) == set(thing[0]))


def plain_piles(web, calls):
    at = {name: (name,) for name in web.names()}
    for name in reversed(calls):
        at[dict(web.persons)[name]] += at[name]
        at[name] = ()
    return tuple(at[name] for name in web.names())


def moves_of(web, stand):
    """All that come of a STAND by a move."""
    found = [plain_move(web, stand, name) for name in set(stand) & set(plain_follows(web))]
    return {after for after in found if after is not None}


def by_names(web, stand, names):
    """All that a STAND comes to by calls of these names."""
    found = [plain_move(web, stand, name) if name in stand else stand for name in names]
    return {after for after in found if after is not None}


def rule_piles(web, paper, calls, piles):
    want_calls(web, calls)
    want_piles(web, piles)
    want(paper is None and plain_piles(web, calls) == piles)


def rule_alike(web, paper, calls, other):
    want_calls(web, calls)
    want_calls(web, other)
    want(paper is None and plain_piles(web, calls) == plain_piles(web, other))


def rule_parted(web, paper, calls, other):
    want_calls(web, calls)
    want_calls(web, other)
    want_row(web, paper)
    want(plain_done(web, paper, calls) != plain_done(web, paper, other))


def rule_fewest(web, paper, piles, many):
    want_piles(web, piles)
    want_whole(many, 0, 400)
    want_calls(web, paper)
    want(plain_piles(web, paper) == piles and len(paper) == many == sum(count for name, count in plain_runs(web, piles)))


def rule_barred(web, paper, piles):
    want_piles(web, piles)
    want_tuple(paper, 2, 3)
    want(all(type(one) is str for one in paper) and paper in plain_bars(web, piles))


def rule_comes(web, paper, row, wish):
    want_row(web, row)
    want_wish(web, wish)
    want_calls(web, paper)
    want(stands_so(plain_done(web, row, paper), wish))


def rule_never(web, paper, row, wish):
    want_row(web, row)
    want_wish(web, wish)
    want_stands(web, wish, paper)
    want(wish in paper and all(moves_of(web, stand) <= set(paper) for stand in paper))
    want(not any(plain_has(row, stand) for stand in paper))


def rule_nearest(web, paper, row, wish, many):
    want_tuple(paper, 2, 2)
    calls, levels = paper
    rule_comes(web, calls, row, wish)
    want_whole(many, 0, 400)
    want(len(calls) == many)
    want_tuple(levels, many, many)
    for level in levels:
        want_stands(web, wish, level)
        want(not any(plain_has(row, stand) for stand in level))
    want(many == 0 or wish in levels[0])
    for level, after in zip(levels, levels[1:]):
        want(all(moves_of(web, stand) <= set(after) for stand in level))


def rule_share(web, paper, row, weights, wish, share):
    want_row(web, row)
    want_tuple(weights, len(plain_follows(web)), len(plain_follows(web)))
    for weight in weights:
        want_whole(weight, 1, 1000)
    want_wish(web, wish)
    want_fraction(share)
    want_tuple(paper)
    for one in paper:
        want_tuple(one, 2, 2)
        want_fraction(one[1])
    want_stands(web, wish, tuple(one[0] for one in paper))
    table = dict(paper)
    want(table.get(wish) == share and all(moves_of(web, stand) <= set(table) for stand in table))
    for stand in table:
        want(table[stand] == as_pair(plain_share(web, row, weights, stand)))


def rule_reads(web, paper, row, wish, torn):
    want_torn(web, torn)
    rule_comes(web, paper, row, wish)
    want(len(paper) == len(torn) and all(name in (None, one) for name, one in zip(torn, paper)))


def rule_torn(web, paper, row, wish, torn):
    want_row(web, row)
    want_wish(web, wish)
    want_torn(web, torn)
    want_tuple(paper, len(torn) + 1, len(torn) + 1)
    for level in paper:
        want_stands(web, wish, level)
    want(wish in paper[0] and not any(plain_has(row, stand) for stand in paper[-1]))
    for name, level, after in zip(reversed(torn), paper, paper[1:]):
        names = plain_follows(web) if name is None else [name]
        want(all(by_names(web, stand, names) <= set(after) for stand in level))


def rule_tells(web, paper, book):
    want_book(book)
    want(paper is None and plain_tells(web.persons, book))


RULES = {
    "piles": (rule_piles, 4), "alike": (rule_alike, 4), "parted": (rule_parted, 4), "fewest": (rule_fewest, 4),
    "barred": (rule_barred, 3), "comes": (rule_comes, 4), "never": (rule_never, 4), "nearest": (rule_nearest, 5),
    "share": (rule_share, 6), "reads": (rule_reads, 5), "torn": (rule_torn, 5), "tells": (rule_tells, 3),
}


def plain_holds(claim, paper):
    """Whether a claim is to be taken with its paper."""
    try:
        want_tuple(claim, 1)
        want(type(claim[0]) is str)
        if claim[0] == "untold":
            want(len(claim) == 2)
            want_book(claim[1])
            return plain_tree(plain_steps(claim[1]), paper)
        want(claim[0] in RULES)
        rule, many = RULES[claim[0]]
        want(len(claim) == many)
        rule(want_web(claim[1]), paper, *claim[2:])
    except NotSo:
        return False
    return True


# Claims with papers that are right, made without the house's papers.

def levels_by_moves(web, wish, many):
    level, levels = {wish}, []
    for k in range(many):
        levels.append(tuple(sorted(level)))
        level = {after for stand in level for after in moves_of(web, stand)}
    return tuple(levels)


def sets_by_calls(web, wish, torn):
    level = {wish}
    found = [tuple(sorted(level))]
    for name in reversed(torn):
        names = plain_follows(web) if name is None else [name]
        level = {after for stand in level for after in by_names(web, stand, names)}
        found.append(tuple(sorted(level)))
    return tuple(found)


def of_piles(chance, web):
    calls, other = drawn_calls(chance, web, 4), drawn_calls(chance, web, 3)
    found = [(("piles", web.persons, calls, plain_piles(web, calls)), None)]
    # What is called twice on end does the same as once.
    found.append((("alike", web.persons, calls, calls + calls[-1:]), None))
    rows = [row for row in [drawn_row(chance, web) for k in range(30)]
            if plain_done(web, row, calls) != plain_done(web, row, other)]
    found += [(("parted", web.persons, calls, other), row) for row in rows[:1]]
    piles = drawn_piles(chance, web)
    found += [(("barred", web.persons, piles), one) for one in plain_bars(web, piles)[-3:]]
    few = calls[:1]
    found.append((("fewest", web.persons, plain_piles(web, few), len(few)), few))
    return found


def of_wishes(chance, web):
    row, wish = drawn_row(chance, web), drawn_wish(chance, web, chance.choice((1, 2, 3)))
    calls = drawn_calls(chance, web, 3)
    end = plain_done(web, row, calls)
    stood = tuple(name for name in end if name in wish)
    found = [(("comes", web.persons, row, stood), calls)]
    stands = plain_stands(web, wish)
    if not any(plain_has(row, stand) for stand in stands):
        found.append((("never", web.persons, row, wish), stands))
    weights = drawn_weights(chance, web)
    table = tuple((stand, as_pair(plain_share(web, row, weights, stand))) for stand in stands)
    found.append((("share", web.persons, row, weights, wish, dict(table)[wish]), table))
    torn = drawn_torn(chance, web, chance.choice((0, 1, 2, 3)), 5)
    readings = plain_readings(web, row, wish, torn)
    found += [(("reads", web.persons, row, wish, torn), one) for one in readings[-1:]]
    if not readings:
        found.append((("torn", web.persons, row, wish, torn), sets_by_calls(web, wish, torn)))
    if len(web) <= 5:
        steps = steps_from(web, row)
        near = min([steps[one] for one in steps if stands_so(one, wish)], default=None)
        if near is not None:
            calls = next(some for some in itertools.product(plain_follows(web), repeat=near)
                         if stands_so(plain_done(web, row, some), wish))
            found.append((("nearest", web.persons, row, wish, near), (calls, levels_by_moves(web, wish, near))))
    return found


def full_tree(ways, number=0):
    """The tree of all steps in turn, each with all its (X, Y)."""
    return None if number == len(ways) else (number, tuple(full_tree(ways, number + 1) for way in ways[number]))


def of_books(chance, web):
    book = drawn_book(chance, web, chance.choice((1, 2, 4)))
    found = [(("tells", web.persons, book), None)]
    loose = loose_book(chance, web.names(), 4)
    tree = full_tree(plain_steps(loose))
    if plain_tree(plain_steps(loose), tree):
        found.append((("untold", loose), tree))
    return found


def drawn_claims(seed, each):
    """(claim, paper) of many words, all of which are to be taken."""
    chance = random.Random(seed)
    found = []
    for many in (1, 2, 3, 4, 5):
        for k in range(each):
            web = drawn_web(chance, many)
            found += of_piles(chance, web) + of_wishes(chance, web) + of_books(chance, web)
    return found


# The same with one thing put otherwise.

def others(thing, names):
    """Things that may stand in a thing's place."""
    if type(thing) is int:
        truths = [bool(thing)] if thing in (0, 1) else [True]
        return [thing + 1, thing - 1, -thing, str(thing), None, (thing,), 10 ** 6000, Odd()] + truths
    if thing is None:
        return [(), False, 0, "", [], "a"] + names[:2]
    if type(thing) is str:
        return names + [thing.upper(), thing + "x", "", None, (thing,), [thing], 0, True, b"a"]
    return [list(thing), thing[::-1], thing[1:], thing[:-1], thing + thing[-1:], thing + ((),), thing + (None,), (), None,
            5, "".join(one for one in thing if type(one) is str), (thing,), dict(enumerate(thing)), Odd()]


def changed(chance, thing, names):
    """A thing with one thing in it, at any depth, put otherwise."""
    if type(thing) is tuple and thing and chance.randrange(5):
        at = chance.randrange(len(thing))
        return thing[:at] + (changed(chance, thing[at], names),) + thing[at + 1:]
    if type(thing) is tuple and len(thing) > 1 and chance.randrange(2):
        one, other = chance.sample(range(len(thing)), 2)
        turned = list(thing)
        turned[one], turned[other] = turned[other], turned[one]
        return tuple(turned)
    return chance.choice(others(thing, names))


def names_in(claim):
    return sorted({name for part in claim[1:2] for one in part for name in one if type(name) is str})


class Words(unittest.TestCase):
    def test_right_ones_are_taken(self):
        words = []
        for claim, paper in drawn_claims(110, 25):
            self.assertIs(plain_holds(claim, paper), True, (claim, paper))
            was = frozen((claim, paper))
            self.assertIs(holds(claim, paper), True, (claim, paper))
            self.assertIs(holds(paper=paper, claim=claim), True)
            self.assertEqual(frozen((claim, paper)), was)
            words.append(claim[0])
        for word in list(RULES) + ["untold"]:
            self.assertGreater(words.count(word), 10, word)

    def test_with_one_thing_put_otherwise(self):
        chance = random.Random(111)
        taken = {word: [0, 0] for word in list(RULES) + ["untold"]}
        for claim, paper in drawn_claims(112, 12):
            names = names_in(claim)
            for k in range(60):
                odd = (changed(chance, claim, names), paper) if k % 2 else (claim, changed(chance, paper, names))
                told = plain_holds(*odd)
                was = frozen(odd)
                self.assertIs(holds(*odd), told, odd)
                self.assertEqual(frozen(odd), was)
                taken[claim[0]][told] += 1
        for word in taken:
            self.assertGreater(taken[word][False], 100, word)

    def test_other_words(self):
        for claim, paper in drawn_claims(113, 2):
            for word in list(RULES) + ["untold", "told", "", "Piles", "pile", None, 0, True, ["piles"], ("piles",), b"piles"]:
                odd = (word,) + claim[1:]
                self.assertIs(holds(odd, paper), plain_holds(odd, paper), (odd, paper))

    def test_one_part_too_many_or_too_few(self):
        for claim, paper in drawn_claims(114, 2):
            for odd in (claim[:-1], claim[1:], claim + (None,), claim + ((),), claim + claim[-1:], (claim,), claim[:1], ()):
                self.assertIs(holds(odd, paper), False)

    def test_lists_for_tuples(self):
        for claim, paper in drawn_claims(115, 3):
            self.assertIs(holds(list(claim), paper), False)
            for at in range(1, len(claim)):
                if type(claim[at]) is tuple:
                    self.assertIs(holds(claim[:at] + (list(claim[at]),) + claim[at + 1:], paper), False)
            if type(paper) is tuple:
                self.assertIs(holds(claim, list(paper)), False)
                for at, part in enumerate(paper):
                    if type(part) is tuple:
                        self.assertIs(holds(claim, paper[:at] + (list(part),) + paper[at + 1:]), False)

    def test_things_of_any_kind(self):
        things = wrong_kinds() + ["a", (), (None,), ("piles",), ((((((((((),),),),),),),),),), Web(CHAIN), ("untold", ())]
        for claim, paper in drawn_claims(116, 2):
            for thing in things:
                for odd in ((thing, paper), (claim, thing), (thing, thing)):
                    self.assertIs(holds(*odd), plain_holds(*odd), odd)
                for at in range(len(claim)):
                    odd = claim[:at] + (thing,) + claim[at + 1:]
                    self.assertIs(holds(odd, paper), plain_holds(odd, paper), (odd, paper))
        for word in list(RULES) + ["untold"]:
            for thing in things:
                for many in range(7):
                    self.assertIs(holds((word,) + (thing,) * many, thing), False)

    def test_very_deep_papers(self):
        deep = None
        for k in range(50000):
            deep = (0, (deep,))
        for claim, paper in drawn_claims(117, 2):
            self.assertIs(holds(claim, deep), False)
            self.assertIs(holds(claim, (deep,)), False)
            if type(paper) is tuple:
                for at in range(len(paper)):
                    self.assertIs(holds(claim, paper[:at] + (deep,) + paper[at + 1:]), False)


class Edges(unittest.TestCase):
    def test_piles(self):
        self.assertIs(holds(("piles", CHAIN, ("b", "c"), (("a", "b", "c"), (), (), ("d",))), None), True)
        self.assertIs(holds(("piles", CHAIN, ("c", "b"), (("a", "b", "c"), (), (), ("d",))), None), False)
        self.assertIs(holds(("piles", CHAIN, ("b",) * 400, (("a", "b"), (), ("c",), ("d",))), None), True)
        self.assertIs(holds(("piles", CHAIN, ("b",) * 401, (("a", "b"), (), ("c",), ("d",))), None), False)
        self.assertIs(holds(("piles", ALONE, (), (("a",),)), None), True)
        self.assertIs(holds(("piles", CHAIN, ("a",), (("a",), ("b",), ("c",), ("d",))), None), False)
        self.assertIs(holds(("alike", CHAIN, ("b", "d"), ("d", "b")), None), True)
        self.assertIs(holds(("alike", CHAIN, ("b", "d"), ("d", "b")), ()), False)
        self.assertIs(holds(("alike", CHAIN, ("b", "c"), ("c", "b")), None), False)
        self.assertIs(holds(("parted", CHAIN, ("b", "c"), ("c", "b")), DCBA), True)
        self.assertIs(holds(("parted", CHAIN, ("b", "c"), ("c", "b")), ("c", "a", "b", "d")), False)
        self.assertIs(holds(("parted", CHAIN, ("b",), ("b", "c")), ("a", "b", "c", "d")), False)

    def test_fewest(self):
        all_four = (("a", "b", "c", "d"), (), (), ())
        self.assertIs(holds(("fewest", CHAIN, all_four, 3), ("b", "c", "d")), True)
        self.assertIs(holds(("fewest", CHAIN, all_four, 4), ("b", "b", "c", "d")), False)
        self.assertIs(holds(("fewest", CHAIN, all_four, 3), ("b", "b", "c", "d")), False)
        self.assertIs(holds(("fewest", CHAIN, all_four, 4), ("b", "c", "d")), False)
        self.assertIs(holds(("fewest", CHAIN[:2], (("a", "b"), ()), 1), ("b",)), True)
        self.assertIs(holds(("fewest", CHAIN[:2], (("a", "b"), ()), True), ("b",)), False)
        self.assertIs(holds(("fewest", CHAIN[:2], (("a",), ("b",)), 0), ()), True)
        self.assertIs(holds(("fewest", CHAIN[:2], (("a",), ("b",)), False), ()), False)
        self.assertIs(holds(("fewest", CHAIN[:2], (("b", "a"), ()), 1), ("b",)), False)

    def test_barred_least_or_not(self):
        piles = (("d", "c", "b", "a"), (), (), ())
        for high, low in itertools.permutations("abcd", 2):
            self.assertIs(holds(("barred", CHAIN, piles), ("turn", high, low)), high < low)
            self.assertIs(holds(("barred", CHAIN, piles), ("below", high, low)), False)
        piles = ((), ("c", "a"), ("d",), ("b",))
        bars = [("stray", "a"), ("stray", "b"), ("below", "a", "b"), ("below", "b", "d"), ("below", "b", "c")]
        for thing in bars + [("stray", "c"), ("stray", "d"), ("turn", "a", "c"), ("below", "c", "d"), ("turn", "b", "d")]:
            self.assertIs(holds(("barred", CHAIN, piles), thing), thing in plain_bars(Web(CHAIN), piles))
        self.assertIs(holds(("barred", CHAIN, piles), ("stray", "a")), True)
        self.assertIs(holds(("barred", CHAIN, piles), ("turn", "a", "c")), True)
        for thing in (None, (), ("stray",), ("stray", "a", "a"), ("stray", "a", "c"), ("turn", "a"), ["stray", "a"]):
            self.assertIs(holds(("barred", CHAIN, piles), thing), False)

    def test_never_by_more_stands_than_come(self):
        web = Web(CHAIN)
        row, wish = ("a", "b", "c", "d"), ("b", "a")
        self.assertIs(holds(("never", CHAIN, row, wish), (("b", "a"),)), True)
        self.assertIs(holds(("never", CHAIN, row, wish), (("b", "a"), ("d", "c"))), False)
        more = plain_stands(web, ("d", "a"))
        self.assertEqual(more, (("b", "a"), ("c", "a"), ("d", "a")))
        self.assertIs(holds(("never", CHAIN, row, wish), more), True)
        self.assertIs(holds(("never", CHAIN, row, wish), more[::-1]), False)
        self.assertIs(holds(("never", CHAIN, row, wish), more + more[-1:]), False)
        self.assertIs(holds(("never", CHAIN, row, ("c", "d")), more), False)
        self.assertIs(holds(("never", CHAIN, row, wish), ()), False)

    def test_nearest(self):
        row = DCBA
        self.assertIs(holds(("nearest", CHAIN, row, ("d", "a"), 0), ((), ())), True)
        self.assertIs(holds(("nearest", CHAIN, row, ("d", "a"), False), ((), ())), False)
        self.assertIs(holds(("nearest", CHAIN, row, ("d", "a"), 0), ((), ((("d", "a"),),))), False)
        self.assertIs(holds(("nearest", CHAIN, row, ("a", "b"), 1), (("b",), ((("a", "b"),),))), True)
        self.assertIs(holds(("nearest", CHAIN, row, ("a", "b"), True), (("b",), ((("a", "b"),),))), False)
        self.assertIs(holds(("nearest", CHAIN, row, ("a", "b"), 1), (("b",), ((("a", "b"), ("a", "c")),))), True)
        self.assertIs(holds(("nearest", CHAIN, row, ("a", "b"), 1), (("b",), ((("a", "b"), ("b", "a")),))), False)
        self.assertIs(holds(("nearest", CHAIN, row, ("a", "b"), 1), (("b",), ())), False)
        self.assertIs(holds(("nearest", CHAIN, row, ("a", "b"), 1), (("b",), ((),))), False)
        self.assertIs(holds(("nearest", CHAIN, row, ("a", "b"), 2), (("b", "b"), ((("a", "b"),), (("a", "a"),)))), False)
        # Two who stand together move as one, so what came by two moves comes by three as well: each level is its own.
        wish = ("a", "b", "c")
        levels = levels_by_moves(Web(CHAIN), wish, 2)
        self.assertIs(holds(("nearest", CHAIN, ("c", "b", "a", "d"), wish, 2), (("b", "c"), levels)), True)
        self.assertIs(holds(("nearest", CHAIN, ("c", "b", "a", "d"), wish, 2), (("b", "c"), levels[::-1])), False)
        self.assertIs(holds(("nearest", CHAIN, ("c", "b", "a", "d"), wish, 2), (("b", "c"), levels, ())), False)
        # Each that comes by a move is wanted in the next level, else more calls than need be were taken as the fewest.
        for at in range(len(levels[1])):
            less = levels[1][:at] + levels[1][at + 1:]
            self.assertIs(holds(("nearest", CHAIN, ("c", "b", "a", "d"), wish, 2), (("b", "c"), (levels[0], less))), False)
        self.assertIs(holds(("nearest", CHAIN, row, ("a", "b"), 2), (("b", "b"), ((("a", "b"),), ()))), False)

    def test_share(self):
        row = ("z", "b", "mid", "a")
        paper = ((("a", "b"), (1, 2)), (("a", "mid"), (0, 1)), (("mid", "b"), (1, 1)), (("mid", "mid"), (1, 1)))
        claim = ("share", STAR, row, (1, 1, 1), ("a", "b"), (1, 2))
        self.assertIs(holds(claim, paper), True)
        self.assertIs(holds(claim, paper[1:]), False)
        self.assertIs(holds(claim, paper[:3]), False)
        self.assertIs(holds(claim, paper[:1] + paper[2:]), False)
        self.assertIs(holds(claim, paper + ((("z", "b"), (1, 2)),)), False)
        self.assertIs(holds(claim, paper + ((("z", "mid"), (0, 1)),)), True)
        self.assertIs(holds(claim[:5] + ((2, 4),), ((("a", "b"), (2, 4)),) + paper[1:]), False)
        self.assertIs(holds(claim, paper[:3] + ((("mid", "mid"), (True, 1)),)), False)
        self.assertIs(holds(claim, paper[:3] + ((("mid", "mid"), (1, True)),)), False)
        self.assertIs(holds(claim, paper + ((("z", "a"), (1, 2)),)), False)
        one = ("share", CHAIN[:1], ("a",), (), ("a",), (1, 1))
        self.assertIs(holds(one, ((("a",), (1, 1)),)), True)
        self.assertIs(holds(one[:5] + ((True, 1),), ((("a",), (1, 1)),)), False)
        self.assertIs(holds(one[:5] + ((1, 1, 1),), ((("a",), (1, 1)),)), False)
        self.assertIs(holds(one[:5] + ((-1, -1),), ((("a",), (-1, -1)),)), False)
        self.assertIs(holds(("share", STAR, row, (1, 1, True)) + claim[4:], paper), False)
        self.assertIs(holds(("share", STAR, row, (1, 1, 1001)) + claim[4:], paper), False)
        self.assertIs(holds(("share", STAR, row, (3, 1, 1)) + claim[4:], paper), False)

    def test_torn_of_no_calls(self):
        self.assertIs(holds(("reads", CHAIN, DCBA, ("d", "a"), ()), ()), True)
        self.assertIs(holds(("reads", CHAIN, DCBA, ("a", "d"), ()), ()), False)
        self.assertIs(holds(("torn", CHAIN, DCBA, ("a", "d"), ()), ((("a", "d"),),)), True)
        self.assertIs(holds(("torn", CHAIN, DCBA, ("a", "d"), ()), ()), False)
        self.assertIs(holds(("torn", CHAIN, DCBA, ("a", "d"), ()), ((("a", "d"),), ())), False)
        self.assertIs(holds(("torn", CHAIN, DCBA, ("d", "a"), ()), ((("d", "a"),),)), False)
        self.assertIs(holds(("torn", CHAIN, DCBA, ("a", "d"), ()), ((("a", "c"), ("a", "d")),)), True)

    def test_torn(self):
        claim = ("torn", CHAIN, DCBA, ("a", "b", "c"), (None, "b"))
        self.assertIs(holds(claim, sets_by_calls(Web(CHAIN), ("a", "b", "c"), (None, "b"))), True)
        self.assertIs(holds(claim[:4] + ((None, None),), sets_by_calls(Web(CHAIN), claim[3], (None, None))), False)
        self.assertIs(holds(("reads", CHAIN, DCBA, ("a", "b", "c"), (None, None)), ("b", "c")), True)
        self.assertIs(holds(("reads", CHAIN, DCBA, ("a", "b", "c"), (None, "b")), ("b", "c")), False)
        self.assertIs(holds(("reads", CHAIN, DCBA, ("a", "b", "c"), (None, None)), ("c", "b")), False)
        self.assertIs(holds(("reads", CHAIN, DCBA, ("a", "b", "c"), (None,)), ("b", "c")), False)
        # Where nobody follows nothing can be read.
        row = Web(LEADERS).names()
        self.assertIs(holds(("torn", LEADERS, row, ("a",), (None,)), ((("a",),), ())), True)
        self.assertIs(holds(("reads", LEADERS, row, ("a",), (None,)), (None,)), False)
        many = ("reads", CHAIN, ("a", "b", "c", "d"), ("a", "b"), ("b",) * 30)
        self.assertIs(holds(many, ("b",) * 30), True)
        self.assertIs(holds(many[:4] + (("b",) * 31,), ("b",) * 31), False)

    def test_books(self):
        abc = ("a", "b", "c")
        web = (("a", None), ("b", "a"), ("c", "b"))
        self.assertIs(holds(("tells", web, (abc,)), None), True)
        self.assertIs(holds(("tells", web, (abc,) * 40), None), True)
        self.assertIs(holds(("tells", web, (abc,) * 41), None), False)
        self.assertIs(holds(("tells", CHAIN, (abc,)), None), False)
        self.assertIs(holds(("tells", (("a", None), ("b", None), ("c", None)), (abc, abc)), None), False)
        self.assertIs(holds(("tells", web, (abc, abc)), False), False)
        self.assertIs(holds(("untold", (abc,)), None), False)
        self.assertIs(holds(("untold", (("a",), ("a",))), (0, ())), True)
        self.assertIs(holds(("untold", ((), ())), (0, ())), False)
        self.assertIs(holds(("untold", (("a", "a"),) * 2), (0, ())), False)
        self.assertIs(holds(("untold", (tuple("abcdefghijklm"), tuple("mlkjihgfedcba"))), (0, ())), False)
        self.assertIs(holds(("untold", (tuple("abcdefghijkl"), tuple("lkjihgfedcba"))), (0, ())), True)
        self.assertIs(holds(("untold", (("a",), ("a",))), (False, ())), False)
        self.assertIs(holds(("untold", (("a",), ("a",), ("a",))), (True, ())), False)
        self.assertIs(holds(("untold", (("a",), ("a",))), (1, ())), False)
        self.assertIs(holds(("untold", (("a",), ("a",))), (-1, ())), False)

    def test_trees(self):
        ring = ("untold", (("a", "b", "c"), ("b", "a", "c"), ("a", "b", "c")))
        self.assertIs(holds(ring, (0, ((1, (None,)),))), True)
        self.assertIs(holds(ring, (1, ((0, (None,)),))), True)
        self.assertIs(holds(ring, (0, (None,))), False)
        self.assertIs(holds(ring, (0, ((0, (None,)),))), False)
        self.assertIs(holds(ring, (0, ((1, (None, None)),))), False)
        self.assertIs(holds(ring, (0, ((1, ()),))), False)
        two = ("untold", (("c", "a", "b", "d"), ("a", "c", "b", "d"), ("a", "b", "d", "c"), ("a", "b", "d", "c")))
        nones = (None, None, None)
        self.assertIs(holds(two, (0, ((1, (None,)),))), True)
        # Where somebody follows two already, a tree of more steps may stand as well.
        self.assertIs(holds(two, (0, ((1, ((2, nones),)),))), True)
        self.assertIs(holds(two, (0, ((1, ((2, nones[1:]),)),))), False)
        self.assertIs(holds(two, (0, ((1, ((1, (None,)),)),))), False)
        self.assertIs(holds(two, (2, ((0, ((1, (None,)),)),) * 3)), True)
        self.assertIs(holds(two, (2, ((0, ((1, (None,)),)),) * 2)), False)
        self.assertIs(holds(two, (2, ((0, ((1, (None,)),)), (1, ((0, (None,)),)), None))), False)

    def test_a_tree_of_all_steps(self):
        # Deeper than ten: c steps behind a and behind d, over and over.
        book = (("c", "a", "b", "d"), ("a", "c", "b", "d"), ("a", "b", "d", "c"))
        for k in range(37):
            book += (book[-1],)
        ways = plain_steps(book)
        tree = None
        for number in range(38, 1, -1):
            tree = (number, (tree,) + (None,) * (len(ways[number]) - 1))
        tree = (0, ((1, (tree,)),))
        self.assertIs(holds(("untold", book), tree), True)
        self.assertIs(plain_tree(ways, tree), True)
        self.assertIs(holds(("untold", book[1:]), tree), False)


class Sound(unittest.TestCase):
    """Whatever is taken is so: papers of all kinds, drawn; claims by the question itself, small webs gone through."""

    def test_piles(self):
        for persons in small_webs("abc"):
            web = Web(persons)
            come = plain_comes(web)
            calls = [some for many in range(4) for some in itertools.product(plain_follows(web), repeat=many)]
            for piles in all_piles(web):
                few = come[piles][0] if piles in come else None
                papers = [("stray", name) for name in web.names()] + [
                    (word, *two) for word in ("below", "turn") for two in itertools.permutations(web.names(), 2)]
                self.assertIs(any(holds(("barred", persons, piles), paper) for paper in papers), few is None)
                for some in calls[::3]:
                    lays = all(plain_laid(web, row, piles) == plain_done(web, row, some) for row in all_rows(web))
                    if holds(("piles", persons, some, piles), None):
                        self.assertTrue(lays)
                    for many in range(5):
                        self.assertIs(holds(("fewest", persons, piles, many), some),
                                      many == few == len(some) and plain_piles(web, some) == piles)

    def test_alike_and_parted(self):
        for persons in small_webs("abc")[::3]:
            web = Web(persons)
            rows = all_rows(web)
            calls = [some for many in range(3) for some in itertools.product(plain_follows(web), repeat=many)]
            for one in calls:
                for other in calls:
                    apart = [row for row in rows if plain_done(web, row, one) != plain_done(web, row, other)]
                    self.assertIs(holds(("alike", persons, one, other), None), not apart)
                    for row in rows:
                        self.assertIs(holds(("parted", persons, one, other), row), row in apart)

    def test_wishes(self):
        chance = random.Random(118)
        for persons in small_webs("abc"):
            web = Web(persons)
            for row in all_rows(web)[::2]:
                steps = steps_from(web, row)
                for wish in all_wishes(web):
                    near = min([steps[one] for one in steps if stands_so(one, wish)], default=None)
                    calls = drawn_calls(chance, web, chance.randrange(4))
                    self.assertIs(holds(("comes", persons, row, wish), calls),
                                  stands_so(plain_done(web, row, calls), wish))
                    self.assertIs(holds(("never", persons, row, wish), plain_stands(web, wish)), near is None)
                    for many in (len(calls), len(calls) + 1):
                        paper = (calls, levels_by_moves(web, wish, many))
                        if holds(("nearest", persons, row, wish, many), paper):
                            self.assertEqual(near, many)

    def test_torn(self):
        chance = random.Random(119)
        for persons in small_webs("abc"):
            web = Web(persons)
            for row in all_rows(web)[::2]:
                for wish in all_wishes(web)[::2]:
                    torn = drawn_torn(chance, web, chance.randrange(4), 6)
                    found = plain_readings(web, row, wish, torn)
                    claim = (persons, row, wish, torn)
                    self.assertIs(holds(("torn", *claim), sets_by_calls(web, wish, torn)), not found)
                    for calls in itertools.product(plain_follows(web), repeat=len(torn)):
                        self.assertIs(holds(("reads", *claim), calls), calls in found)

    def test_shares(self):
        chance = random.Random(120)
        for web in drawn_webs(121, 1):
            row, weights, wish = drawn_row(chance, web), drawn_weights(chance, web), drawn_wish(chance, web, 3)
            paper = tuple((stand, as_pair(plain_share(web, row, weights, stand))) for stand in plain_stands(web, wish))
            told = dict(paper)[wish]
            self.assertIs(holds(("share", web.persons, row, weights, wish, told), paper), True)
            for other in ((0, 1), (1, 1), (1, 2), as_pair(1 - Fraction(*told))):
                self.assertIs(holds(("share", web.persons, row, weights, wish, other), paper), other == told)

    def test_books(self):
        chance = random.Random(122)
        webs = small_webs("abc")
        for k in range(60):
            book = loose_book(chance, "abc", chance.choice((2, 3, 4)))
            told = [persons for persons in webs if holds(("tells", persons, book), None)]
            self.assertEqual(told, [persons for persons in webs if plain_tells(persons, book)])
            self.assertIs(holds(("untold", book), full_tree(plain_steps(book))), told == [])


if __name__ == "__main__":
    unittest.main()
