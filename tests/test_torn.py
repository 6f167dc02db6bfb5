import itertools
import random
import unittest

from heelrow.torn import places, readings
from heelrow.turns import way
from heelrow.webs import Web
from tests.helper import (
    ALONE, CHAIN, LEADERS, SEVERAL, STAR, TWELVE, TWELVE_STAR, all_rows, all_wishes, check_last, check_refusals,
    check_refused, check_told, drawn_row, drawn_torn, drawn_webs, drawn_wish, plain_done, plain_follows,
    plain_readings, plain_stands, small_webs, stands_so, wrong_rows, wrong_torn, wrong_webs, wrong_wholes,
    wrong_wishes,
)

MOSTS = wrong_wholes("NoCount", 1, 20000)


def plain_places(torn, found):
    return tuple(tuple(sorted({calls[k] for calls in found})) for k in range(len(torn)))


def by_rows(web, row, wish, torn):
    """How many readings there are, counted row by row from the first call on."""
    ways = {row: 1}
    for name in torn:
        more = {}
        for at in ways:
            for one in plain_follows(web) if name is None else [name]:
                told = plain_done(web, at, (one,))
                more[told] = more.get(told, 0) + ways[at]
        ways = more
    return sum(ways[at] for at in ways if stands_so(at, wish))


class Checked(unittest.TestCase):
    def check_both(self, web, row, wish, torn, **named):
        found = plain_readings(web, row, wish, torn)
        given = {"web": web, "row": row, "wish": wish, "torn": torn}
        check_told(self, readings, given, len(found), **named)
        check_told(self, places, given, plain_places(torn, found), **named)


class Told(Checked):
    def test_told(self):
        web = Web(CHAIN)
        row = ("d", "c", "b", "a")
        self.assertEqual(readings(web, row, ("a", "b"), (None, None)), 5)
        self.assertEqual(places(web, row, ("a", "b"), (None, None)), (("b", "c", "d"), ("b", "c", "d")))
        self.assertEqual(readings(web, row, ("a", "b", "c"), (None, None)), 1)
        self.assertEqual(places(web, row, ("a", "b", "c"), (None, None)), (("b",), ("c",)))
        self.assertEqual(readings(web, row, ("a", "b", "c"), (None, "b")), 0)
        self.assertEqual(places(web, row, ("a", "b", "c"), (None, "b")), ((), ()))
        self.assertEqual(readings(web, row, ("a", "b", "c"), ("b", "c")), 1)
        self.assertEqual(places(web, row, ("a", "b", "c"), ("b", "c")), (("b",), ("c",)))

    def test_no_torn_calls_at_all(self):
        web = Web(SEVERAL)
        row = web.names()
        self.check_both(web, row, ("ann", "gus"), ())
        self.check_both(web, row, ("gus", "ann"), ())
        self.assertEqual(readings(web, row, ("ann", "gus"), ()), 1)
        self.assertEqual(readings(web, row, ("gus", "ann"), ()), 0)
        self.assertEqual(places(web, row, ("gus", "ann"), ()), ())

    def test_where_nobody_follows(self):
        for persons in (ALONE, LEADERS):
            web = Web(persons)
            self.assertEqual(readings(web, web.names(), ("a",), ()), 1)
            self.assertEqual(places(web, web.names(), ("a",), ()), ())
            # Nobody can be called, so what can't be read has no reading.
            for many in (1, 2, 30):
                self.assertEqual(readings(web, web.names(), ("a",), (None,) * many), 0)
                self.assertEqual(places(web, web.names(), ("a",), (None,) * many), ((),) * many)

    def test_small_webs_whole(self):
        chance = random.Random(70)
        for persons in small_webs("abc"):
            web = Web(persons)
            for row in all_rows(web)[::4]:
                for wish in all_wishes(web):
                    for many in (1, 2, 4):
                        self.check_both(web, row, wish, drawn_torn(chance, web, many, 6))

    def test_drawn(self):
        chance = random.Random(71)
        for web in drawn_webs(72, 1):
            for many, unread in ((0, 5), (1, 10), (3, 10), (5, 4), (12, 1), (30, 0)):
                torn = drawn_torn(chance, web, many, unread)
                while torn.count(None) > 3 and web.callable():
                    torn = drawn_torn(chance, web, many, unread)
                for size in (1, 2, 3):
                    self.check_both(web, drawn_row(chance, web), drawn_wish(chance, web, size), torn)

    def test_those_that_were_called(self):
        chance = random.Random(73)
        for web in drawn_webs(74, 1):
            if web.callable():
                row = drawn_row(chance, web)
                calls = drawn_torn(chance, web, 30, 0)
                some = drawn_wish(chance, web, 4)
                wish = tuple(name for name in plain_done(web, row, calls) if name in some)
                torn = tuple(None if chance.randrange(3) else name for name in calls)
                self.assertGreaterEqual(readings(web, row, wish, torn), 1)
                for name, told in zip(calls, places(web, row, wish, torn)):
                    self.assertIn(name, told)

    def test_thirty_none_of_them_read(self):
        chance = random.Random(75)
        torn = (None,) * 30
        for persons in small_webs("abcd")[::9] + [SEVERAL[:6], STAR]:
            web = Web(persons)
            row = drawn_row(chance, web)
            whole = 0
            for wish in itertools.permutations(web.names()[:3]):
                told = readings(web, row, wish, torn)
                self.assertEqual(told, by_rows(web, row, wish, torn))
                check_told(self, readings, {"web": web, "row": row, "wish": wish, "torn": torn}, told)
                self.assertIs(told == 0, places(web, row, wish, torn) == ((),) * 30)
                whole += told
            self.assertEqual(whole, len(web.callable()) ** 30)

    def test_places_by_readings(self):
        # A NAME stands in a place just where there is a reading once it is put there.
        chance = random.Random(76)
        for persons in (SEVERAL, STAR, TWELVE_STAR, TWELVE):
            web = Web(persons)
            for many in (3, 8, 30):
                row, wish, torn = drawn_row(chance, web), drawn_wish(chance, web, 3), drawn_torn(chance, web, many, 7)
                told = places(web, row, wish, torn)
                self.assertEqual(len(told), many)
                for at, name in enumerate(torn):
                    names = plain_follows(web) if name is None else [name]
                    put = [one for one in names if readings(web, row, wish, torn[:at] + (one,) + torn[at + 1:])]
                    self.assertEqual(told[at], tuple(put))

    def test_as_few_as_the_way(self):
        chance = random.Random(77)
        for web in drawn_webs(78, 1):
            row, wish = drawn_row(chance, web), drawn_wish(chance, web, 3)
            calls = way(web, row, wish)
            if calls is not None:
                self.assertGreaterEqual(readings(web, row, wish, (None,) * len(calls)), 1)
                for many in range(len(calls)):
                    self.assertEqual(readings(web, row, wish, (None,) * many), 0)


class Most(Checked):
    def test_just_as_many(self):
        web = Web(STAR)
        wish = ("a", "b", "z")
        many = len(plain_stands(web, wish))
        for torn in ((), ("a",), (None, "b")):
            self.check_both(web, web.names(), wish, torn, most=many)
            self.check_both(web, web.names(), wish, torn, most=20000)
            for asked in (readings, places):
                given = {"web": web, "row": web.names(), "wish": wish, "torn": torn, "most": many - 1}
                check_refused(self, asked, given, "TooMany", many - 1)
                check_refused(self, asked, {**given, "most": 1}, "TooMany", 1)
        self.check_both(web, web.names(), ("mid",), (None, "b"), most=1)

    def test_most_left_out_is_2000(self):
        web = Web(TWELVE)
        given = {"web": web, "row": web.names(), "wish": tuple("abcdefghi"), "torn": ()}
        for asked, want in ((readings, 1), (places, ())):
            check_refused(self, asked, given, "TooMany", 2000)
            check_told(self, asked, given, want, most=4862)
            with self.assertRaises(TypeError):
                asked(web, web.names(), ("a",), (), 5)


class Refused(Checked):
    def test_wrong_inputs(self):
        good = {"web": Web(CHAIN), "row": ("d", "b", "a", "c"), "wish": ("c", "d"), "torn": (None, "b") * 15, "most": 20000}
        wrong = [("web", wrong_webs()), ("row", wrong_rows()), ("wish", wrong_wishes()), ("torn", wrong_torn()),
                 ("most", MOSTS)]
        for asked in (readings, places):
            check_refusals(self, asked, good, wrong)
            check_last(self, asked, {**good, "most": 1}, wrong, 1)

    def test_thirty_and_one_more(self):
        web = Web(CHAIN)
        for asked in (readings, places):
            for thing in (None, "b"):
                given = {"web": web, "row": web.names(), "wish": ("c",)}
                asked(**given, torn=(thing,) * 30)
                check_refused(self, asked, {**given, "torn": (thing,) * 31}, "NoTorn", None)


if __name__ == "__main__":
    unittest.main()
