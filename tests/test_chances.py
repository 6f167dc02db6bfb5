import random
import unittest
from fractions import Fraction
from math import gcd

from heelrow.chances import chance
from heelrow.shares import share
from heelrow.turns import turn_of
from heelrow.webs import Web
from tests.helper import (
    ALONE, CHAIN, LEADERS, SEVERAL, STAR, TWELVE, all_rows, all_wishes, as_pair, check_last, check_refusals,
    check_refused, check_told, drawn_row, drawn_webs, drawn_weights, drawn_wish, plain_called, plain_follows,
    plain_stands, small_webs, stands_so, wrong_rows, wrong_webs, wrong_weights, wrong_wholes, wrong_wishes,
)

MOSTS = wrong_wholes("NoCount", 1, 20000)
MANYS = wrong_wholes("NoCount", 0, 60)


def walked(web, row, weights, many):
    """How likely each row is behind so many drawn calls, walked forward."""
    rows = {row: Fraction(1)}
    whole = sum(weights)
    for k in range(many if weights else 0):
        more = {}
        for at in rows:
            for name, weight in zip(plain_follows(web), weights):
                told = plain_called(web, at, name)
                more[told] = more.get(told, 0) + rows[at] * Fraction(weight, whole)
        rows = more
    return rows


class Checked(unittest.TestCase):
    def check_chance(self, web, row, weights, wish, many, want, **named):
        given = {"web": web, "row": row, "weights": weights, "wish": wish, "many": many}
        told = chance(**given, **named)
        check_told(self, chance, given, want, **named)
        self.assertEqual([type(one) for one in told], [int, int])
        self.assertEqual(gcd(*told), 1)


class Told(Checked):
    def test_told(self):
        web = Web(STAR)
        row = ("z", "b", "mid", "a")
        self.assertEqual(chance(web, row, (1, 1, 1), ("a", "b"), 0), (0, 1))
        self.assertEqual(chance(web, row, (1, 1, 1), ("b", "a"), 0), (1, 1))
        self.assertEqual(chance(web, row, (1, 1, 1), ("mid", "b"), 1), (1, 3))
        self.assertEqual(chance(web, row, (1, 4, 1), ("mid", "b"), 1), (2, 3))
        self.assertEqual(chance(web, row, (1, 1, 1), ("mid", "b"), 2), (5, 9))
        # Behind two calls a stands ahead of b just by b, a.
        self.assertEqual(chance(web, row, (1, 1, 1), ("a", "b"), 2), (1, 9))
        self.assertEqual(chance(web, row, (2, 4, 5), ("a", "b"), 2), (8, 121))

    def test_small_webs_walked(self):
        drawn = random.Random(170)
        for persons in small_webs("abc") + small_webs("abcd")[::20]:
            web = Web(persons)
            for row in all_rows(web)[::7]:
                weights = drawn_weights(drawn, web)
                for many in (0, 1, 2, 5):
                    rows = walked(web, row, weights, many)
                    for wish in all_wishes(web)[::2]:
                        want = sum((rows[one] for one in rows if stands_so(one, wish)), Fraction(0))
                        self.check_chance(web, row, weights, wish, many, as_pair(want))

    def test_sixty(self):
        drawn = random.Random(171)
        for persons in small_webs("abcd")[::30] + [STAR, SEVERAL[:5]]:
            web = Web(persons)
            row, weights = drawn_row(drawn, web), drawn_weights(drawn, web)
            rows = walked(web, row, weights, 60)
            for wish in all_wishes(web)[::7]:
                want = sum((rows[one] for one in rows if stands_so(one, wish)), Fraction(0))
                self.check_chance(web, row, weights, wish, 60, as_pair(want))

    def test_nobody_follows(self):
        for persons in (ALONE, LEADERS):
            web = Web(persons)
            row = web.names()[::-1]
            for many in (0, 1, 60):
                self.check_chance(web, row, (), row, many, (1, 1))
                self.check_chance(web, row, (), row[:1], many, (1, 1))
        self.check_chance(Web(LEADERS), Web(LEADERS).names(), (), ("ab", "a"), 60, (0, 1))

    def test_drawn(self):
        drawn = random.Random(172)
        for web in drawn_webs(173, 2):
            row, weights, wish = drawn_row(drawn, web), drawn_weights(drawn, web), drawn_wish(drawn, web, 3)
            parts = []
            for turn in set([wish, wish[::-1], wish[1:] + wish[:1]]):
                told = chance(web, row, weights, turn, 7, most=20000)
                self.check_chance(web, row, weights, turn, 7, told, most=20000)
                parts.append(Fraction(*told))
            self.assertTrue(0 <= sum(parts) <= 1)
            self.assertEqual(chance(web, row, weights, wish, 0, most=20000), (1 if stands_so(row, wish) else 0, 1))
            if len(web) > 1:
                one, other = wish[:2]
                both = [Fraction(*chance(web, row, weights, two, 9)) for two in ((one, other), (other, one))]
                self.assertEqual(sum(both), 1)
                word = turn_of(web, row, one, other)
                if word != "either":
                    self.assertEqual(both[0], 1 if word == "ahead" else 0)

    def test_of_twelve_by_one_call(self):
        drawn = random.Random(174)
        for web in drawn_webs(175, 1):
            row, weights, wish = drawn_row(drawn, web), drawn_weights(drawn, web), drawn_wish(drawn, web, 4)
            for many in (1, 2):
                rows = walked(web, row, weights, many)
                want = sum((rows[one] for one in rows if stands_so(one, wish)), Fraction(0))
                self.check_chance(web, row, weights, wish, many, as_pair(want), most=20000)

    def test_near_the_share(self):
        web = Web(STAR)
        row, weights = ("z", "b", "mid", "a"), (2, 4, 5)
        for wish in (("a", "b"), ("b", "z", "a"), ("mid", "a")):
            off = Fraction(*chance(web, row, weights, wish, 60)) - Fraction(*share(web, row, weights, wish))
            self.assertLess(abs(off), Fraction(1, 1000))


class Refused(Checked):
    def test_many(self):
        given = {"web": Web(CHAIN), "row": ("d", "b", "a", "c"), "weights": (1, 1000, 3), "wish": ("b", "d")}
        for many in (0, 1, 59, 60):
            chance(**given, many=many)
        for many in (61, -1, True, False, None, "5", (5,), 10 ** 40):
            check_refused(self, chance, {**given, "many": many}, "NoCount", many)

    def test_most(self):
        web = Web(STAR)
        wish = ("a", "b", "z")
        many = len(plain_stands(web, wish))
        given = {"web": web, "row": web.names(), "weights": (1, 2, 3), "wish": wish, "many": 0}
        check_refused(self, chance, {**given, "most": many - 1}, "TooMany", many - 1)
        check_told(self, chance, given, chance(**given), most=many)
        twelve = Web(TWELVE)
        given = {"web": twelve, "row": twelve.names(), "weights": (1,) * 11, "wish": tuple("abcdefghi"), "many": 2}
        check_refused(self, chance, given, "TooMany", 2000)
        check_refused(self, chance, {**given, "most": 4861}, "TooMany", 4861)
        check_told(self, chance, given, (1, 1), most=4862)
        with self.assertRaises(TypeError):
            chance(web, web.names(), (1, 2, 3), wish, 0, 5)

    def test_wrong_inputs(self):
        good = {"web": Web(CHAIN), "row": ("d", "b", "a", "c"), "weights": (1, 1000, 3), "wish": ("b", "d"), "many": 60,
                "most": 2000}
        wrong = [("web", wrong_webs()), ("row", wrong_rows()), ("weights", wrong_weights()), ("wish", wrong_wishes()),
                 ("many", MANYS), ("most", MOSTS)]
        check_refusals(self, chance, good, wrong)
        check_last(self, chance, {**good, "most": 1}, wrong, 1)
        check_refusals(self, chance, {**good, "many": 0}, wrong)

    def test_weights_where_nobody_follows(self):
        for thing in ((1,), [], None):
            given = {"web": Web(ALONE), "row": ("a",), "weights": thing, "wish": ("a",), "many": 3}
            check_refused(self, chance, given, "NoWeights", None)


if __name__ == "__main__":
    unittest.main()
