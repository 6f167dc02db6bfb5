import random
import unittest

from heelrow.piles import laid, piles
from heelrow.runs import bar, fewest, how_many, runs
from heelrow.webs import Web
from tests.helper import (
    ALONE, CHAIN, LEADERS, SAMPLES, SEVERAL, STAR, TWELVE, all_piles, check_refusals, check_refused, check_told,
    drawn_calls, drawn_row, drawn_webs, home_of, one_more, plain_bars, plain_comes, plain_done, plain_follows,
    plain_runs, small_webs, wrong_piles, wrong_webs,
)

ASKED = (runs, fewest, how_many)
# Two chains below one who leads, which stand by turns in that one's pile: 15 calls of each are wanted.
BRAID = (("a", None), ("b", "a"), ("c", "a")) + tuple(("abcdefghijk"[k], "abcdefghijk"[k - 2]) for k in range(3, 11))
BRAIDED = (tuple("abcdefghijk"),) + ((),) * 10


def least_of_name(web, name):
    """For all piles that come how few calls of NAME, with any others, lay them."""
    found = {home_of(web): 0}
    many, level = 0, [home_of(web)]
    while level:
        left = list(level)
        while left:
            some = left.pop()
            for other in plain_follows(web):
                more = one_more(web, some, other)
                if other != name and more not in found:
                    found[more] = many
                    left.append(more)
                    level.append(more)
        level = [more for more in {one_more(web, some, name) for some in level} if more not in found]
        many += 1
        for more in level:
            found[more] = many
    return found


def plain_bar(web, some):
    turn = ("stray", "below", "turn")
    return min(plain_bars(web, some), key=lambda one: (turn.index(one[0]), one[1:]), default=None)


class Bar(unittest.TestCase):
    def test_told(self):
        web = Web(CHAIN)
        self.assertIsNone(bar(web, (("a", "b"), ("c",), (), ("d",))))
        self.assertEqual(bar(web, ((), ("a", "b"), ("c",), ("d",))), ("stray", "a"))
        self.assertEqual(bar(web, (("d", "b"), (), (), ("c", "a"))), ("stray", "a"))
        self.assertEqual(bar(web, (("a", "c"), ("b",), (), ("d",))), ("below", "b", "c"))
        self.assertEqual(bar(web, (("a", "d"), ("b", "c"), (), ())), ("below", "b", "d"))
        self.assertEqual(bar(web, (("a", "c", "b", "d"), (), (), ())), ("turn", "b", "c"))
        self.assertEqual(bar(web, (("d", "c", "b", "a"), (), (), ())), ("turn", "a", "b"))
        self.assertEqual(bar(web, (("a",), ("d", "b"), ("c",), ())), ("below", "c", "d"))
        self.assertEqual(bar(Web(STAR), (("a", "b"), (), ("mid",), ("z",))), ("stray", "b"))
        self.assertEqual(bar(Web(LEADERS), (("aa",), ("a",), ("ab",), ("abcdef",))), ("stray", "a"))
        self.assertIsNone(bar(Web(ALONE), (("a",),)))

    def test_small_webs_whole(self):
        for persons in small_webs("abc") + small_webs("abcd")[::4]:
            web = Web(persons)
            come = plain_comes(web)
            for some in all_piles(web):
                told = bar(web, some)
                self.assertEqual(told, plain_bar(web, some))
                self.assertIs(told is None, some in come)

    def test_drawn(self):
        chance = random.Random(30)
        for web in drawn_webs(31, 4):
            some = piles(web, drawn_calls(chance, web, chance.choice((0, 2, 9, 40))))
            check_told(self, bar, {"web": web, "piles": some}, None)
            # Two who change places bar them more often than not.
            one, other = chance.choice(web.names()), chance.choice(web.names())
            change = {one: other, other: one}
            some = tuple(tuple(change.get(name, name) for name in pile) for pile in some)
            check_told(self, bar, {"web": web, "piles": some}, plain_bar(web, some))

    def test_refused(self):
        good = {"web": Web(CHAIN), "piles": (("d",), ("c",), ("b",), ("a",))}
        check_refusals(self, bar, good, [("web", wrong_webs()), ("piles", wrong_piles())])


class Runs(unittest.TestCase):
    def test_told(self):
        web = Web(CHAIN)
        self.assertEqual(runs(web, home_of(web)), (("b", 0), ("c", 0), ("d", 0)))
        self.assertEqual(runs(web, (("a", "b", "c"), ("d",), (), ())), (("b", 1), ("c", 2), ("d", 1)))
        self.assertEqual(runs(web, (("a", "b", "c", "d"), (), (), ())), (("b", 1), ("c", 1), ("d", 1)))
        self.assertEqual(runs(Web(ALONE), (("a",),)), ())
        self.assertEqual(runs(Web(LEADERS), home_of(Web(LEADERS))), ())
        several = Web(SEVERAL)
        some = (("ann", "bob", "dee", "cy"), (), (), (), ("eve",), ("fay",), ("gus",))
        self.assertEqual(runs(several, some), (("bob", 2), ("cy", 1), ("dee", 1), ("fay", 0)))

    def test_small_webs_whole(self):
        for persons in small_webs("abcd")[::7]:
            web = Web(persons)
            least = {name: least_of_name(web, name) for name in web.callable()}
            for some in plain_comes(web):
                self.assertEqual(runs(web, some), plain_runs(web, some))
                self.assertEqual(runs(web, some), tuple((name, least[name][some]) for name in web.callable()))

    def test_drawn(self):
        chance = random.Random(32)
        for web in drawn_webs(33, 6):
            for many in (0, 3, 10, 40, 400):
                some = piles(web, drawn_calls(chance, web, many))
                check_told(self, runs, {"web": web, "piles": some}, plain_runs(web, some))


class Fewest(unittest.TestCase):
    def check_calls(self, web, some):
        calls = fewest(web, some)
        check_told(self, fewest, {"web": web, "piles": some}, calls)
        self.assertEqual(piles(web, calls), some)
        self.assertEqual(tuple((name, calls.count(name)) for name in web.callable()), plain_runs(web, some))
        return calls

    def test_told(self):
        web = Web(CHAIN)
        self.assertEqual(fewest(web, home_of(web)), ())
        self.assertEqual(fewest(web, (("a", "b", "c", "d"), (), (), ())), ("b", "c", "d"))
        self.assertEqual(fewest(web, (("a", "b"), ("c",), (), ("d",))), ("c", "b"))
        self.assertEqual(fewest(Web(ALONE), (("a",),)), ())

    def test_small_webs_whole(self):
        for persons in small_webs("abc") + small_webs("abcd")[::5]:
            web = Web(persons)
            come = plain_comes(web)
            for some in come:
                self.assertEqual(len(self.check_calls(web, some)), come[some][0])

    def test_drawn(self):
        chance = random.Random(34)
        for web in drawn_webs(35, 6):
            for many in (0, 1, 3, 10, 40, 400):
                calls = drawn_calls(chance, web, many)
                few = self.check_calls(web, piles(web, calls))
                row = drawn_row(chance, web)
                self.assertEqual(plain_done(web, row, few), plain_done(web, row, calls))
                self.assertTrue(all(few.count(name) <= calls.count(name) for name in web.names()))

    def test_many(self):
        self.assertEqual(len(self.check_calls(Web(BRAID), BRAIDED)), 30)
        web = Web(BRAID + (("l", "a"),))
        self.assertEqual(len(self.check_calls(web, (tuple("abcdefghijkl"),) + ((),) * 11)), 31)
        self.assertEqual(self.check_calls(Web(TWELVE), (tuple("abcdefghijkl"),) + ((),) * 11), tuple("bcdefghijkl"))


class HowMany(unittest.TestCase):
    def test_told(self):
        web = Web(CHAIN)
        self.assertEqual(how_many(web, home_of(web)), 1)
        self.assertEqual(how_many(web, (("a", "b", "c", "d"), (), (), ())), 1)
        self.assertEqual(how_many(web, (("a", "b"), (), ("c", "d"), ())), 2)
        self.assertEqual(how_many(Web(ALONE), (("a",),)), 1)
        self.assertEqual(how_many(Web(LEADERS), home_of(Web(LEADERS))), 1)
        six = Web(tuple((name, None) for name in "abcdef") + tuple(zip("ghijkl", "abcdef")))
        self.assertEqual(how_many(six, tuple(zip("abcdef", "ghijkl")) + ((),) * 6), 720)

    def test_small_webs_whole(self):
        for persons in small_webs("abc") + small_webs("abcd")[::5]:
            web = Web(persons)
            come = plain_comes(web)
            for some in come:
                self.assertEqual(how_many(web, some), come[some][1])

    def test_all_rows_of_so_few_calls(self):
        # Gone through call by call, where calls lie in two trees that don't touch each other.
        web = Web((("a", None), ("b", "a"), ("c", "a"), ("d", "b"), ("e", None), ("f", "e"), ("g", "f")))
        some = piles(web, ("d", "b", "c", "f", "g", "d", "b"))
        counts = dict(plain_runs(web, some))
        found = {(home_of(web), ()): 1}
        for k in range(sum(counts.values())):
            more = {}
            for (at, used), ways in found.items():
                for name in web.callable():
                    if used.count(name) < counts[name]:
                        key = (one_more(web, at, name), tuple(sorted(used + (name,))))
                        more[key] = more.get(key, 0) + ways
            found = more
        self.assertEqual(how_many(web, some), sum(ways for (at, used), ways in found.items() if at == some))

    def test_drawn(self):
        chance = random.Random(36)
        for web in drawn_webs(37, 2):
            for many in (3, 12, 60):
                some = piles(web, drawn_calls(chance, web, many))
                told = how_many(web, some)
                check_told(self, how_many, {"web": web, "piles": some}, told)
                self.assertGreaterEqual(told, 1)

    def test_thirty_and_one_more(self):
        self.assertEqual(sum(many for name, many in runs(Web(BRAID), BRAIDED)), 30)
        told = how_many(Web(BRAID), BRAIDED)
        check_told(self, how_many, {"web": Web(BRAID), "piles": BRAIDED}, told)
        self.assertEqual(told, thirty_ways())
        web = Web(BRAID + (("l", "a"),))
        some = (tuple("abcdefghijkl"),) + ((),) * 11
        check_refused(self, how_many, {"web": web, "piles": some}, "TooMany", 31)
        self.assertEqual(how_many(web, BRAIDED + (("l",),)), told)
        six = Web(BRAID + (("l", "j"),))
        check_refused(self, how_many, {"web": six, "piles": some}, "TooMany", 36)


def thirty_ways():
    """How many rows of calls lay the braid, counted from home on, of piles from which the braid can still come."""
    web = Web(BRAID)
    counts = dict(plain_runs(web, BRAIDED))
    found = {(home_of(web), tuple(sorted(counts.items()))): 1}
    for k in range(30):
        more = {}
        for (at, left), ways in found.items():
            for name, many in left:
                then = one_more(web, at, name)
                # Who has come to stand in a pile of who leads stays there for good, so that pile must begin the braid.
                if many > 0 and at[web.names().index(name)] and then[0] == BRAIDED[0][:len(then[0])]:
                    key = (then, tuple((one, had - (one == name)) for one, had in left))
                    more[key] = more.get(key, 0) + ways
        found = more
    return sum(ways for (at, left), ways in found.items() if at == BRAIDED)


class Refused(unittest.TestCase):
    def test_wrong_inputs(self):
        good = {"web": Web(CHAIN), "piles": (("a", "b"), ("c",), (), ("d",))}
        for asked in ASKED:
            check_refusals(self, asked, good, [("web", wrong_webs()), ("piles", wrong_piles())])

    def test_barred(self):
        for persons in small_webs("abc") + [CHAIN, STAR]:
            web = Web(persons)
            for some in all_piles(web)[::9]:
                barred = plain_bar(web, some)
                for asked in ASKED:
                    if barred is not None:
                        check_refused(self, asked, {"web": web, "piles": some}, "Barred", barred)

    def test_barred_ahead_of_too_many(self):
        web = Web(BRAID + (("l", "a"),))
        some = (tuple("abcdefghijlk"), ()) + ((),) * 10
        self.assertIsNone(bar(web, some))
        some = (tuple("abcdefghilkj"), ()) + ((),) * 10
        self.assertIsNone(bar(web, some))
        some = (tuple("abcdefgjihkl"), ()) + ((),) * 10
        check_refused(self, how_many, {"web": web, "piles": some}, "Barred", ("turn", "h", "j"))

    def test_where_nobody_follows_home_alone_comes(self):
        for persons in SAMPLES:
            web = Web(persons)
            if not web.callable():
                for some in all_piles(web)[:200]:
                    self.assertIs(bar(web, some) is None, some == home_of(web))
                    self.assertEqual(laid(web, web.names(), home_of(web)), web.names())


if __name__ == "__main__":
    unittest.main()
