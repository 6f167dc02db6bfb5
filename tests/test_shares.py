import itertools
import random
import unittest
from fractions import Fraction
from math import gcd

from heelrow.shares import mean_ahead, share
from heelrow.webs import Web
from tests.helper import (
    ALONE, CHAIN, LEADERS, SEVERAL, STAR, TWELVE, TWELVE_STAR, all_rows, all_wishes, as_pair, check_last,
    check_refusals, check_refused, check_told, comes_from, drawn_row, drawn_webs, drawn_weights, drawn_wish,
    plain_called, plain_follows, plain_share, plain_stands, small_webs, stands_so, wrong_names_of, wrong_rows,
    wrong_webs, wrong_weights, wrong_wholes, wrong_wishes,
)

MOSTS = wrong_wholes("NoCount", 1, 20000)


def ones(web):
    return (1,) * len(web.callable())


def long_run(web, row, weights):
    """The shares of the rows in which the drawn calls end up, as those that a drawn call leaves as they are."""
    rows = sorted(min([comes_from(web, one) for one in comes_from(web, row)], key=len))
    at = {one: k for k, one in enumerate(rows)}
    whole = sum(weights)
    # One equation for each row (what comes to it is what it has), the last one put by: all shares make up 1.
    table = [[Fraction(-(j == k)) for j in range(len(rows))] + [Fraction(0)] for k in range(len(rows))]
    for one in rows:
        for name, weight in zip(plain_follows(web), weights):
            table[at[plain_called(web, one, name)]][at[one]] += Fraction(weight, whole)
    table[-1] = [Fraction(1)] * (len(rows) + 1)
    return dict(zip(rows, solved(table)))


def solved(table):
    for k in range(len(table)):
        pick = next(j for j in range(k, len(table)) if table[j][k] != 0)
        table[k], table[pick] = table[pick], table[k]
        table[k] = [one / table[k][k] for one in table[k]]
        for j in range(len(table)):
            if j != k and table[j][k] != 0:
                table[j] = [one - table[j][k] * two for one, two in zip(table[j], table[k])]
    return [line[-1] for line in table]


class Checked(unittest.TestCase):
    def check_fraction(self, told):
        self.assertIs(type(told), tuple)
        self.assertEqual([type(one) for one in told], [int, int])
        self.assertGreaterEqual(told[0], 0)
        self.assertGreaterEqual(told[1], 1)
        self.assertEqual(gcd(*told), 1)


class Share(Checked):
    def test_told(self):
        web = Web(STAR)
        row = ("z", "b", "mid", "a")
        self.assertEqual(share(web, row, (1, 1, 1), ("a", "b")), (1, 2))
        self.assertEqual(share(web, row, (2, 4, 5), ("a", "b")), (1, 3))
        self.assertEqual(share(web, row, (2, 4, 5), ("b", "a")), (2, 3))
        self.assertEqual(share(web, row, (2, 4, 5), ("mid", "a")), (1, 1))
        self.assertEqual(share(web, row, (2, 4, 5), ("a", "mid")), (0, 1))
        # The last call of all is z, of the others b: 5 of 11, then 4 of 6.
        self.assertEqual(share(web, row, (2, 4, 5), ("z", "b", "a")), (10, 33))
        self.assertEqual(share(web, row, (2, 4, 5), ("mid", "z", "b", "a")), (10, 33))
        self.assertEqual(share(web, row, (2, 4, 5), ("z", "mid", "b")), (0, 1))

    def test_edges(self):
        self.assertEqual(share(Web(ALONE), ("a",), (), ("a",)), (1, 1))
        leaders = Web(LEADERS)
        row = ("ab", "a", "abcdef", "aa")
        self.assertEqual(share(leaders, row, (), row), (1, 1))
        self.assertEqual(share(leaders, row, (), ("ab", "aa")), (1, 1))
        self.assertEqual(share(leaders, row, (), ("aa", "ab")), (0, 1))
        chain = Web(TWELVE)
        self.assertEqual(share(chain, chain.names()[::-1], ones(chain), tuple("adgl")), (1, 1))
        self.assertEqual(share(chain, chain.names(), ones(chain), ("b", "a")), (0, 1))

    def test_those_that_a_call_leaves_as_they_are(self):
        chance = random.Random(60)
        for persons in small_webs("abc") + small_webs("abcd")[::5]:
            web = Web(persons)
            for row in all_rows(web)[::11]:
                weights = drawn_weights(chance, web)
                rows = long_run(web, row, weights)
                self.assertEqual(sum(rows.values()), 1)
                for wish in all_wishes(web):
                    want = sum((rows[one] for one in rows if stands_so(one, wish)), Fraction(0))
                    self.assertEqual(share(web, row, weights, wish), as_pair(want))
                for name in web.names():
                    want = sum((rows[one] * one.index(name) for one in rows), Fraction(0))
                    self.assertEqual(mean_ahead(web, row, weights, name), as_pair(want))

    def test_of_five(self):
        chance = random.Random(61)
        for persons in (SEVERAL[:5], TWELVE_STAR[4:8] + (("x", "e"),), (("a", None),) + tuple(zip("bcde", "aabb"))):
            web = Web(persons)
            row, weights = drawn_row(chance, web), drawn_weights(chance, web)
            rows = long_run(web, row, weights)
            for wish in all_wishes(web)[::3]:
                want = sum((rows[one] for one in rows if stands_so(one, wish)), Fraction(0))
                self.assertEqual(share(web, row, weights, wish), as_pair(want))

    def test_drawn(self):
        chance = random.Random(62)
        for web in drawn_webs(63, 3):
            for many in (1, 2, 3, 4, 6):
                row, weights, wish = drawn_row(chance, web), drawn_weights(chance, web), drawn_wish(chance, web, many)
                given = {"web": web, "row": row, "weights": weights, "wish": wish}
                told = share(**given, most=20000)
                self.check_fraction(told)
                check_told(self, share, given, as_pair(plain_share(**given)), most=20000)

    def test_all_turns_make_up_one(self):
        chance = random.Random(64)
        for web in drawn_webs(65, 1):
            row, weights, some = drawn_row(chance, web), drawn_weights(chance, web), drawn_wish(chance, web, 4)
            told = [share(web, row, weights, wish, most=20000) for wish in itertools.permutations(some)]
            self.assertEqual(sum(Fraction(*one) for one in told), 1)

    def test_great_weights(self):
        chance = random.Random(66)
        web = Web(tuple(("abcdefghijkl"[k], "abcdefghijkl"[max(k - 2, 0)] if k else None) for k in range(12)))
        weights = tuple(chance.randint(900, 1000) for name in web.callable())
        wish = tuple("acegibdfhj")
        given = {"web": web, "row": web.names(), "weights": weights, "wish": wish}
        told = share(**given)
        self.check_fraction(told)
        self.assertTrue(0 < told[0] < told[1])
        self.assertEqual(told, as_pair(plain_share(**given)))
        self.assertEqual(share(web, web.names(), (1000,) * 11, wish), share(web, web.names(), ones(web), wish))

    def test_most(self):
        web = Web(TWELVE)
        good = {"web": web, "row": web.names(), "weights": ones(web), "wish": tuple("abcdefghi")}
        check_refused(self, share, good, "TooMany", 2000)
        check_refused(self, share, {**good, "most": 4861}, "TooMany", 4861)
        check_told(self, share, good, (1, 1), most=4862)
        many = len(plain_stands(Web(STAR), ("a", "b", "z")))
        good = {"web": Web(STAR), "row": Web(STAR).names(), "weights": (1, 2, 3), "wish": ("a", "b", "z")}
        check_told(self, share, good, as_pair(plain_share(**good)), most=many)
        check_refused(self, share, {**good, "most": many - 1}, "TooMany", many - 1)
        with self.assertRaises(TypeError):
            share(Web(ALONE), ("a",), (), ("a",), 5)

    def test_refused(self):
        good = {"web": Web(CHAIN), "row": ("d", "b", "a", "c"), "weights": (1, 1000, 3), "wish": ("b", "d"), "most": 2000}
        wrong = [("web", wrong_webs()), ("row", wrong_rows()), ("weights", wrong_weights()), ("wish", wrong_wishes()),
                 ("most", MOSTS)]
        check_refusals(self, share, good, wrong)
        check_last(self, share, {**good, "most": 1}, wrong, 1)

    def test_weights_where_nobody_follows(self):
        for persons in (ALONE, LEADERS):
            web = Web(persons)
            for thing in ((1,), [], None, (1,) * len(web)):
                given = {"web": web, "row": web.names(), "weights": thing, "wish": ("a",)}
                check_refused(self, share, given, "NoWeights", None)


class MeanAhead(Checked):
    def test_told(self):
        web = Web(STAR)
        row = ("z", "b", "mid", "a")
        self.assertEqual(mean_ahead(web, row, (1, 1, 1), "mid"), (0, 1))
        self.assertEqual(mean_ahead(web, row, (1, 1, 1), "a"), (2, 1))
        # Ahead of a: mid for ever, b 4 of 6, z 5 of 7.
        self.assertEqual(mean_ahead(web, row, (2, 4, 5), "a"), as_pair(1 + Fraction(4, 6) + Fraction(5, 7)))
        self.assertEqual(mean_ahead(Web(ALONE), ("a",), (), "a"), (0, 1))
        self.assertEqual(mean_ahead(Web(LEADERS), ("ab", "a", "abcdef", "aa"), (), "abcdef"), (2, 1))
        chain = Web(TWELVE)
        self.assertEqual(mean_ahead(chain, chain.names()[::-1], (7,) * 11, "h"), (7, 1))

    def test_drawn(self):
        chance = random.Random(67)
        for web in drawn_webs(68, 2):
            row, weights = drawn_row(chance, web), drawn_weights(chance, web)
            whole = Fraction(0)
            for name in web.names():
                others = [other for other in web.names() if other != name]
                want = sum((plain_share(web, row, weights, (other, name)) for other in others), Fraction(0))
                told = mean_ahead(web, row, weights, name)
                self.check_fraction(told)
                check_told(self, mean_ahead, {"web": web, "row": row, "weights": weights, "name": name}, as_pair(want))
                whole += Fraction(*told)
            # Of n persons 0, 1, .. n - 1 stand ahead, whoever they are.
            self.assertEqual(whole, len(web) * (len(web) - 1) // 2)

    def test_refused(self):
        web = Web(CHAIN)
        good = {"web": web, "row": ("d", "b", "a", "c"), "weights": (1, 1000, 3), "name": "a"}
        wrong = [("web", wrong_webs()), ("row", wrong_rows()), ("weights", wrong_weights()), ("name", wrong_names_of(web))]
        check_refusals(self, mean_ahead, good, wrong)


if __name__ == "__main__":
    unittest.main()
