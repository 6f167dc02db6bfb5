import random
import unittest

from heelrow.sures import firsts, lasts, musts
from heelrow.turns import way
from heelrow.webs import Web
from tests.helper import (
    ALONE, CHAIN, LEADERS, SEVERAL, STAR, TWELVE, all_rows, check_last, check_refusals, check_refused, check_told,
    comes_from, drawn_calls, drawn_row, drawn_webs, plain_called, plain_done, plain_follows, plain_stands, small_webs,
    wrong_rows, wrong_webs, wrong_wholes,
)

MOSTS = wrong_wholes("NoCount", 1, 20000)
ASKED = (musts, firsts, lasts)


def comes_without(web, row, left_out):
    """All rows that come from a row by calls of others."""
    found, left = {row}, [row]
    while left:
        at = left.pop()
        for name in plain_follows(web):
            told = plain_called(web, at, name)
            if name != left_out and told not in found:
                found.add(told)
                left.append(told)
    return found


def plain_answers(web, rows, row, other):
    """What musts, firsts and lasts tell, by all rows that come."""
    follow = plain_follows(web)
    must = tuple(name for name in follow if other not in comes_without(web, row, name))
    first = tuple(name for name in follow if other in rows[plain_called(web, row, name)])
    last = tuple(name for name in follow if any(plain_called(web, at, name) == other for at in rows[row]))
    return must, first, last


class Checked(unittest.TestCase):
    def check_all(self, web, row, other, want, **named):
        for asked, told in zip(ASKED, want):
            check_told(self, asked, {"web": web, "row": row, "other": other}, told, **named)

    def check_no_way(self, web, row, other):
        for asked in ASKED:
            check_refused(self, asked, {"web": web, "row": row, "other": other}, "NoWay", None)


class Told(Checked):
    def test_told(self):
        web = Web(CHAIN)
        up, down = ("a", "b", "c", "d"), ("d", "c", "b", "a")
        self.assertEqual(musts(web, down, up), ("b", "c", "d"))
        self.assertEqual(musts(web, down, ("d", "c", "a", "b")), ("b",))
        # By c, b too: c stands right behind b, b steps out.
        self.assertEqual(firsts(web, down, ("d", "c", "a", "b")), ("b", "c", "d"))
        self.assertEqual(lasts(web, down, ("d", "c", "a", "b")), ("b",))
        # By b alone, or by c, d.
        self.assertEqual(musts(web, ("a", "c", "b", "d"), up), ())
        self.assertEqual(lasts(web, down, up), ("b", "c", "d"))

    def test_the_same_row(self):
        web = Web(CHAIN)
        # No call must be, and by calls that change nothing some begin and end.
        self.check_all(web, ("a", "b", "c", "d"), ("a", "b", "c", "d"), ((), ("b", "c", "d"), ("b", "c", "d")))
        self.check_all(web, ("d", "c", "b", "a"), ("d", "c", "b", "a"), ((), (), ()))
        self.check_all(Web(ALONE), ("a",), ("a",), ((), (), ()))
        row = Web(LEADERS).names()
        self.check_all(Web(LEADERS), row, row, ((), (), ()))

    def test_no_way(self):
        web = Web(CHAIN)
        self.check_no_way(web, ("a", "b", "c", "d"), ("b", "a", "c", "d"))
        self.check_no_way(web, ("a", "b", "c", "d"), ("a", "b", "d", "c"))
        row = Web(LEADERS).names()
        self.check_no_way(Web(LEADERS), row, row[::-1])

    def test_small_webs_whole(self):
        for persons in small_webs("abc") + small_webs("abcd")[::12]:
            web = Web(persons)
            rows = {row: comes_from(web, row) for row in all_rows(web)}
            for row in all_rows(web)[::len(web)]:
                for other in rows:
                    if other in rows[row]:
                        self.check_all(web, row, other, plain_answers(web, rows, row, other))
                    else:
                        self.check_no_way(web, row, other)

    def test_of_five(self):
        chance = random.Random(160)
        for persons in (SEVERAL[:5], (("a", None),) + tuple(zip("bcde", "aabb")), (("a", "c"), ("b", "c"), ("c", "e"),
                        ("d", None), ("e", None))):
            web = Web(persons)
            rows = {row: comes_from(web, row) for row in all_rows(web)}
            for k in range(6):
                row = drawn_row(chance, web)
                for other in chance.sample(sorted(rows[row]), min(4, len(rows[row]))):
                    self.check_all(web, row, other, plain_answers(web, rows, row, other))

    def test_larger_ones(self):
        chance = random.Random(161)
        for web in drawn_webs(162, 2):
            if len(web) > 9:
                continue
            row, calls = drawn_row(chance, web), drawn_calls(chance, web, chance.choice((1, 3, 6)))
            other = plain_done(web, row, calls)
            must, first, last = [asked(web, row, other, most=20000) for asked in ASKED]
            self.check_all(web, row, other, (must, first, last), most=20000)
            self.assertTrue(set(must) <= set(calls))
            self.assertTrue(set(must) <= set(way(web, row, other, most=20000)))
            if calls:
                self.assertIn(calls[0], first)
                self.assertIn(calls[-1], last)
            for name in plain_follows(web):
                there = way(web, plain_called(web, row, name), other, most=20000)
                self.assertIs(name in first, there is not None)
                if name in last:
                    # Who is called last stands right behind whom they follow.
                    self.assertEqual(other[other.index(name) - 1], web.whom(name))


class Most(Checked):
    def test_just_as_many(self):
        for persons, row, other in ((CHAIN, "dcba", "abcd"), (CHAIN, "abcd", "dcba"), (CHAIN, "abcd", "abcd")):
            web = Web(persons)
            row, other = tuple(row), tuple(other)
            many = len(plain_stands(web, other))
            for asked in ASKED:
                given = {"web": web, "row": row, "other": other}
                if many > 1:
                    # Of so many STANDs it is told ahead of NoWay.
                    check_refused(self, asked, {**given, "most": many - 1}, "TooMany", many - 1)
                if way(web, row, other) is None:
                    check_refused(self, asked, {**given, "most": many}, "NoWay", None)
                else:
                    check_told(self, asked, given, asked(web, row, other), most=many)

    def test_too_many_ahead_of_no_way(self):
        web = Web(STAR)
        row = ("mid", "a", "b", "z")
        other = ("a", "mid", "b", "z")
        many = len(plain_stands(web, other))
        self.assertGreater(many, 1)
        for asked in ASKED:
            check_refused(self, asked, {"web": web, "row": row, "other": other, "most": 1}, "TooMany", 1)
            check_refused(self, asked, {"web": web, "row": row, "other": other, "most": many}, "NoWay", None)

    def test_most_left_out_is_2000(self):
        web = Web(TWELVE[:9])
        row = web.names()
        for asked in ASKED:
            check_refused(self, asked, {"web": web, "row": row, "other": row}, "TooMany", 2000)
            check_refused(self, asked, {"web": web, "row": row, "other": row, "most": 4861}, "TooMany", 4861)
            asked(web, row, row, most=4862)
            with self.assertRaises(TypeError):
                asked(web, row, row, 4862)
        web = Web(TWELVE[:8])
        self.check_all(web, web.names(), web.names(), ((), web.names()[1:], web.names()[1:]))


class Refused(Checked):
    def test_wrong_inputs(self):
        web = Web(CHAIN)
        good = {"web": web, "row": ("d", "c", "b", "a"), "other": ("d", "c", "a", "b"), "most": 20000}
        wrong = [("web", wrong_webs()), ("row", wrong_rows()), ("other", wrong_rows()), ("most", MOSTS)]
        for asked in ASKED:
            check_refusals(self, asked, good, wrong)
            check_last(self, asked, {**good, "most": 1}, wrong, 1)
            never = {**good, "row": ("a", "b", "c", "d"), "other": ("d", "c", "b", "a")}
            check_refused(self, asked, never, "NoWay", None)
            for argument, things in wrong:
                for thing, name, field in things:
                    check_refused(self, asked, {**never, argument: thing}, name, field)


if __name__ == "__main__":
    unittest.main()
