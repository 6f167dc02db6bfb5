import itertools
import random
import unittest
from math import factorial, prod

from heelrow.rests import is_rest, number_of, rest_at, rests_many
from heelrow.webs import Web
from tests.helper import (
    ALONE, CHAIN, LEADERS, SAMPLES, SEVERAL, STAR, TWELVE, TWELVE_STAR, all_rows, check_refusals, check_refused,
    check_told, comes_from, drawn_calls, drawn_row, drawn_webs, naive_above, plain_done, small_webs, wrong_kinds,
    wrong_rows, wrong_webs, wrong_wholes,
)

# Of this row of SEVERAL the rests begin with gus, then eve and fay, then ann with all below.
ROW = ("cy", "gus", "fay", "eve", "bob", "ann", "dee")


def plain_many(web):
    """The product that the document tells."""
    whole = 1
    for name, whom in web.persons:
        if whom is None:
            lot = [one for one in web.names() if name in (one,) + naive_above(web.persons, one)]
            sizes = [sum(one in (other,) + naive_above(web.persons, other) for other in lot) for one in lot]
            whole *= factorial(len(lot)) // prod(sizes)
    return whole


def plain_is_rest(web, row, other):
    """Each behind whom they follow, and as they stand, their leaders stand in the row's turn, each side by side."""
    whoms = dict(web.persons)
    top = {name: (naive_above(web.persons, name) or (name,))[-1] for name in whoms}
    order = [top[name] for name in other]
    blocks = [one for k, one in enumerate(order) if k == 0 or order[k - 1] != one]
    behind = all(whoms[name] is None or other.index(whoms[name]) < k for k, name in enumerate(other))
    return behind and blocks == [name for name in row if whoms[name] is None]


def settled(chance, web, row):
    """A rest of the row, reckoned by many drawn calls from it."""
    return plain_done(web, row, drawn_calls(chance, web, 1500))


class SmallWebs(unittest.TestCase):
    def test_whole(self):
        for persons in small_webs("abc") + small_webs("abcd")[::3]:
            web = Web(persons)
            rows = all_rows(web)
            comes = {row: comes_from(web, row) for row in rows}
            for row in rows[::5]:
                rests = [one for one in rows if all(one in comes[other] for other in comes[row])]
                self.assertEqual([one for one in rows if is_rest(web, row, one)], rests)
                self.assertEqual(rests_many(web), len(rests))
                self.assertEqual([rest_at(web, row, k) for k in range(len(rests))], rests)
                self.assertEqual([number_of(web, row, one) for one in rests], list(range(len(rests))))

    def test_larger_ones_listed(self):
        chance = random.Random(40)
        for persons in (SEVERAL, SEVERAL[:4] + (("eve", "dee"), ("fay", "bob"), ("gus", "bob"))):
            web = Web(persons)
            row = drawn_row(chance, web)
            rests = [one for one in itertools.permutations(web.names()) if plain_is_rest(web, row, one)]
            self.assertEqual(rests_many(web), len(rests))
            self.assertEqual([rest_at(web, row, k) for k in range(len(rests))], rests)


class IsRest(unittest.TestCase):
    def test_told(self):
        web = Web(SEVERAL)
        self.assertIs(is_rest(web, ROW, ("gus", "eve", "fay", "ann", "dee", "bob", "cy")), True)
        self.assertIs(is_rest(web, ROW, ("gus", "eve", "fay", "ann", "bob", "dee", "cy")), True)
        self.assertIs(is_rest(web, ROW, ("gus", "eve", "fay", "ann", "cy", "dee", "bob")), False)
        self.assertIs(is_rest(web, ROW, ("eve", "fay", "gus", "ann", "dee", "bob", "cy")), False)
        self.assertIs(is_rest(web, ROW, ("gus", "eve", "ann", "fay", "dee", "bob", "cy")), False)
        self.assertIs(is_rest(web, ROW, ROW), False)
        self.assertIs(is_rest(Web(ALONE), ("a",), ("a",)), True)
        self.assertIs(is_rest(Web(LEADERS), ("ab", "a", "aa", "abcdef"), ("ab", "a", "aa", "abcdef")), True)
        self.assertIs(is_rest(Web(LEADERS), ("ab", "a", "aa", "abcdef"), ("a", "ab", "aa", "abcdef")), False)

    def test_drawn(self):
        chance = random.Random(41)
        for web in drawn_webs(42, 3):
            row = drawn_row(chance, web)
            rest = settled(chance, web, row)
            check_told(self, is_rest, {"web": web, "row": row, "thing": rest}, True)
            for k in range(4):
                one, other = chance.choice(web.names()), chance.choice(web.names())
                change = {one: other, other: one}
                near = tuple(change.get(name, name) for name in rest)
                check_told(self, is_rest, {"web": web, "row": row, "thing": near}, plain_is_rest(web, row, near))

    def test_of_any_kind(self):
        web = Web(CHAIN)
        self.assertIs(is_rest(web, ("d", "c", "b", "a"), ("a", "b", "c", "d")), True)
        rest = ("a", "b", "c", "d")
        odd = wrong_kinds() + [list(rest), "abcd", rest[:3], rest + ("d",), rest + ("e",), (rest,), ("a", "b", "c", ["d"])]
        for thing in odd + [thing for thing, name, place in wrong_rows()]:
            check_told(self, is_rest, {"web": web, "row": ("d", "c", "b", "a"), "thing": thing}, False)

    def test_refused(self):
        for thing in (("a", "b", "c", "d"), None, 5, []):
            good = {"web": Web(CHAIN), "row": ("d", "c", "b", "a"), "thing": thing}
            check_refusals(self, is_rest, good, [("web", wrong_webs()), ("row", wrong_rows())])


class RestsMany(unittest.TestCase):
    def test_told(self):
        for persons, many in ((ALONE, 1), (LEADERS, 1), (CHAIN, 1), (TWELVE, 1), (STAR, 6), (SEVERAL, 3)):
            check_told(self, rests_many, {"web": Web(persons)}, many)
        check_told(self, rests_many, {"web": Web(TWELVE_STAR)}, factorial(11))

    def test_drawn(self):
        for web in drawn_webs(43, 5):
            check_told(self, rests_many, {"web": web}, plain_many(web))

    def test_refused(self):
        check_refusals(self, rests_many, {"web": Web(CHAIN)}, [("web", wrong_webs())])


class RestAt(unittest.TestCase):
    def test_told(self):
        web = Web(SEVERAL)
        front = ("gus", "eve", "fay", "ann")
        want = [front + ("bob", "cy", "dee"), front + ("bob", "dee", "cy"), front + ("dee", "bob", "cy")]
        for number in range(3):
            check_told(self, rest_at, {"web": web, "row": ROW, "number": number}, want[number])
            check_told(self, number_of, {"web": web, "row": ROW, "rest": want[number]}, number)

    def test_one_rest_alone(self):
        for persons in (ALONE, LEADERS, CHAIN, TWELVE):
            web = Web(persons)
            row = web.names()[::-1]
            rest = rest_at(web, row, 0)
            self.assertIs(plain_is_rest(web, row, rest), True)
            self.assertEqual(number_of(web, row, rest), 0)
            for number in (-1, 1, True, False):
                check_refused(self, rest_at, {"web": web, "row": row, "number": number}, "NoNumber", number)

    def test_drawn_there_and_back(self):
        chance = random.Random(44)
        for web in drawn_webs(45, 4):
            row = drawn_row(chance, web)
            many = plain_many(web)
            ahead = ()
            for number in sorted({0, many - 1, *[chance.randrange(many) for k in range(6)]}):
                rest = rest_at(web, row, number)
                check_told(self, rest_at, {"web": web, "row": row, "number": number}, rest)
                self.assertIs(plain_is_rest(web, row, rest), True)
                self.assertLess(ahead, rest)
                check_told(self, number_of, {"web": web, "row": row, "rest": rest}, number)
                ahead = rest
            for number in (-1, many):
                check_refused(self, rest_at, {"web": web, "row": row, "number": number}, "NoNumber", number)

    def test_side_by_side_numbers_rise(self):
        web = Web(TWELVE_STAR)
        row = web.names()
        for start in (0, 10 ** 6, factorial(11) - 50):
            rests = [rest_at(web, row, number) for number in range(start, start + 50)]
            self.assertEqual(rests, sorted(rests))
            self.assertEqual([number_of(web, row, one) for one in rests], list(range(start, start + 50)))
        self.assertEqual(rest_at(web, row, 0), ("f",) + tuple("abcdeghijkl"))
        self.assertEqual(rest_at(web, row, factorial(11) - 1), ("f",) + tuple("lkjihgedcba"))

    def test_refused(self):
        good = {"web": Web(STAR), "row": ("z", "b", "mid", "a"), "number": 5}
        numbers = wrong_wholes("NoNumber", 0, 5)
        check_refusals(self, rest_at, good, [("web", wrong_webs()), ("row", wrong_rows()), ("number", numbers)])


class NumberOf(unittest.TestCase):
    def test_settled(self):
        chance = random.Random(46)
        for web in drawn_webs(47, 2):
            row = drawn_row(chance, web)
            rest = settled(chance, web, row)
            self.assertEqual(rest_at(web, row, number_of(web, row, rest)), rest)

    def test_refused(self):
        row, rest = ("z", "b", "mid", "a"), ("mid", "b", "z", "a")
        odd = wrong_kinds() + [row, list(rest), (), rest[:3], rest + ("a",), (rest,), "mid", rest[::-1], ("a", "b", "c")]
        rests = [(thing, "NoRest", thing) for thing in odd]
        good = {"web": Web(STAR), "row": row, "rest": rest}
        check_refusals(self, number_of, good, [("web", wrong_webs()), ("row", wrong_rows()), ("rest", rests)])

    def test_no_rest_of_every_other_row(self):
        for persons in SAMPLES[:6]:
            web = Web(persons)
            row = web.names()[::-1]
            for one in itertools.islice(itertools.permutations(web.names()), 0, None, 17):
                if not plain_is_rest(web, row, one):
                    check_refused(self, number_of, {"web": web, "row": row, "rest": one}, "NoRest", one)


if __name__ == "__main__":
    unittest.main()
