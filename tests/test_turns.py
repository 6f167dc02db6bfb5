import random
import unittest

from heelrow.turns import firm, stands, turn_of, way
from heelrow.webs import Web
from tests.helper import (
    ALONE, CHAIN, LEADERS, SEVERAL, STAR, TWELVE, TWELVE_STAR, all_rows, all_wishes, check_last, check_refusals,
    check_refused, check_told, comes_from, drawn_calls, drawn_row, drawn_webs, drawn_wish, plain_done, plain_follows,
    plain_has, plain_stands, small_webs, stands_so, steps_from, wrong_names_of, wrong_rows, wrong_webs, wrong_wholes,
    wrong_wishes,
)

MOSTS = wrong_wholes("NoCount", 1, 20000)


class Stands(unittest.TestCase):
    def test_told(self):
        web = Web(CHAIN)
        self.assertEqual(stands(web, ("a",)), (("a",),))
        self.assertEqual(stands(web, ("c",)), (("a",), ("b",), ("c",)))
        self.assertEqual(stands(web, ("b", "c")), (("a", "a"), ("a", "b"), ("a", "c"), ("b", "b"), ("b", "c")))
        self.assertEqual(stands(web, ("c", "b")), (("b", "a"), ("c", "a"), ("c", "b")))
        self.assertEqual(stands(Web(STAR), ("z", "mid", "a")), (("z", "mid", "a"), ("z", "mid", "mid")))
        self.assertEqual(stands(Web(STAR), ("z", "a")), (("mid", "a"), ("mid", "mid"), ("z", "a"), ("z", "mid")))
        self.assertEqual(stands(Web(ALONE), ("a",)), (("a",),))
        self.assertEqual(stands(Web(LEADERS), ("ab", "a")), (("ab", "a"),))

    def test_small_webs_whole(self):
        for persons in small_webs("abc") + small_webs("abcd")[::3]:
            web = Web(persons)
            for wish in all_wishes(web):
                self.assertEqual(stands(web, wish), plain_stands(web, wish))

    def test_drawn(self):
        chance = random.Random(50)
        for web in drawn_webs(51, 2):
            for many in (1, 2, 3, 5):
                wish = drawn_wish(chance, web, many)
                want = plain_stands(web, wish)
                check_told(self, stands, {"web": web, "wish": wish}, want)
                check_told(self, stands, {"web": web, "wish": wish}, want, most=len(want))

    def test_all_persons(self):
        for persons in (SEVERAL, STAR, CHAIN, LEADERS, TWELVE_STAR):
            web = Web(persons)
            for wish in (web.names(), web.names()[::-1]):
                self.assertEqual(stands(web, wish), plain_stands(web, wish))

    def test_just_as_many(self):
        for persons, wish in ((CHAIN, ("b", "c")), (SEVERAL, ("cy", "fay", "dee")), (STAR, ("a", "b"))):
            web = Web(persons)
            many = len(plain_stands(web, wish))
            self.assertEqual(len(stands(web, wish, most=many)), many)
            self.assertEqual(len(stands(web, wish, most=20000)), many)
            for most in range(1, many):
                check_refused(self, stands, {"web": web, "wish": wish, "most": most}, "TooMany", most)
        self.assertEqual(stands(Web(CHAIN), ("a",), most=1), (("a",),))

    def test_most_left_out_is_2000(self):
        # Of a chain's first ones in their turn come 1, 2, 5, 14, .. STANDs: 1430 of eight, 4862 of nine, 16796 of ten.
        web = Web(TWELVE)
        self.assertEqual(len(stands(web, tuple("abcdefgh"))), 1430)
        check_refused(self, stands, {"web": web, "wish": tuple("abcdefghi")}, "TooMany", 2000)
        self.assertEqual(len(stands(web, tuple("abcdefghi"), most=4862)), 4862)
        check_refused(self, stands, {"web": web, "wish": tuple("abcdefghi"), "most": 4861}, "TooMany", 4861)
        self.assertEqual(len(stands(web, tuple("abcdefghij"), most=20000)), 16796)
        check_refused(self, stands, {"web": web, "wish": web.names(), "most": 20000}, "TooMany", 20000)

    def test_refused(self):
        wrong = [("web", wrong_webs()), ("wish", wrong_wishes()), ("most", MOSTS)]
        check_refusals(self, stands, {"web": Web(CHAIN), "wish": ("c", "b", "d"), "most": 2000}, wrong)
        check_refusals(self, stands, {"web": Web(CHAIN), "wish": ("c", "b", "d")}, wrong[:2])
        check_last(self, stands, {"web": Web(CHAIN), "wish": ("b", "c"), "most": 1}, wrong, 1)

    def test_most_by_its_name_alone(self):
        with self.assertRaises(TypeError):
            stands(Web(CHAIN), ("a",), 5)
        with self.assertRaises(TypeError):
            way(Web(CHAIN), ("a", "b", "c", "d"), ("a",), 5)


class Way(unittest.TestCase):
    def test_told(self):
        web = Web(CHAIN)
        row = ("d", "c", "b", "a")
        self.assertEqual(way(web, row, ("d", "a")), ())
        self.assertEqual(way(web, row, ("a", "b")), ("b",))
        self.assertEqual(way(web, row, ("a", "b", "c", "d")), ("b", "c", "d"))
        self.assertEqual(way(web, row, ("c",)), ())
        self.assertIsNone(way(web, ("a", "b", "c", "d"), ("b", "a")))
        self.assertEqual(way(Web(ALONE), ("a",), ("a",)), ())
        self.assertIsNone(way(Web(LEADERS), ("a", "aa", "ab", "abcdef"), ("ab", "a")))
        self.assertEqual(way(Web(LEADERS), ("a", "aa", "ab", "abcdef"), ("a", "ab")), ())

    def check_way(self, web, row, wish, **named):
        calls = way(web, row, wish, **named)
        check_told(self, way, {"web": web, "row": row, "wish": wish}, calls, **named)
        if calls is not None:
            self.assertTrue(stands_so(plain_done(web, row, calls), wish))
            self.assertTrue(set(calls) <= set(plain_follows(web)))
            self.assertIs(type(calls), tuple)
        return calls

    def test_small_webs_whole(self):
        for persons in small_webs("abc") + small_webs("abcd")[::6]:
            web = Web(persons)
            for row in all_rows(web)[::5]:
                steps = steps_from(web, row)
                for wish in all_wishes(web):
                    near = [steps[one] for one in steps if stands_so(one, wish)]
                    calls = self.check_way(web, row, wish)
                    self.assertEqual(None if calls is None else len(calls), min(near, default=None))

    def test_larger_ones(self):
        chance = random.Random(52)
        for web in drawn_webs(53, 1):
            if len(web) <= 6:
                row = drawn_row(chance, web)
                steps = steps_from(web, row)
                for many in (1, 2, 3, 4, 6):
                    wish = drawn_wish(chance, web, many)
                    near = [steps[one] for one in steps if stands_so(one, wish)]
                    calls = self.check_way(web, row, wish)
                    self.assertEqual(None if calls is None else len(calls), min(near, default=None))

    def test_where_drawn_calls_lead(self):
        chance = random.Random(54)
        for web in drawn_webs(55, 3):
            row = drawn_row(chance, web)
            calls = drawn_calls(chance, web, 9)
            end = plain_done(web, row, calls)
            for many in (1, 2, 4, 12):
                some = drawn_wish(chance, web, many)
                wish = tuple(name for name in end if name in some)
                told = self.check_way(web, row, wish, most=20000)
                self.assertLessEqual(len(told), len(calls))

    def test_never_just_where_the_row_has_none_of_the_stands(self):
        chance = random.Random(56)
        for web in drawn_webs(57, 2):
            for many in (2, 3, 4):
                row, wish = drawn_row(chance, web), drawn_wish(chance, web, many)
                has = [stand for stand in plain_stands(web, wish) if plain_has(row, stand)]
                self.assertIs(self.check_way(web, row, wish) is None, not has)

    def test_most(self):
        web = Web(TWELVE)
        row = web.names()
        good = {"web": web, "row": row, "wish": tuple("abcdefghi")}
        # All STANDs are counted, though the wish stands already.
        check_refused(self, way, good, "TooMany", 2000)
        check_refused(self, way, {**good, "most": 4861}, "TooMany", 4861)
        check_told(self, way, good, (), most=4862)
        check_refused(self, way, {**good, "row": row[::-1], "most": 1}, "TooMany", 1)
        check_told(self, way, {"web": web, "row": row, "wish": ("b", "a")}, None, most=2)
        check_refused(self, way, {"web": web, "row": row, "wish": ("b", "c"), "most": 4}, "TooMany", 4)

    def test_refused(self):
        good = {"web": Web(CHAIN), "row": ("d", "b", "a", "c"), "wish": ("c", "b", "d"), "most": 20000}
        wrong = [("web", wrong_webs()), ("row", wrong_rows()), ("wish", wrong_wishes()), ("most", MOSTS)]
        check_refusals(self, way, good, wrong)
        check_last(self, way, {**good, "wish": ("b", "c"), "most": 4}, wrong, 4)


class TurnOf(unittest.TestCase):
    def test_told(self):
        web = Web(SEVERAL)
        row = ("ann", "cy", "bob", "eve", "dee", "fay", "gus")
        self.assertEqual(turn_of(web, row, "ann", "eve"), "ahead")
        self.assertEqual(turn_of(web, row, "eve", "ann"), "behind")
        self.assertEqual(turn_of(web, row, "ann", "cy"), "ahead")
        self.assertEqual(turn_of(web, row, "cy", "bob"), "either")
        self.assertEqual(turn_of(web, row, "cy", "fay"), "ahead")
        self.assertEqual(turn_of(web, row, "eve", "dee"), "either")
        self.assertEqual(turn_of(Web(LEADERS), ("ab", "a", "aa", "abcdef"), "a", "ab"), "behind")

    def test_small_webs_whole(self):
        for persons in small_webs("abc") + small_webs("abcd")[::2]:
            web = Web(persons)
            for row in all_rows(web)[::7]:
                rows = comes_from(web, row)
                ahead = []
                for one in web.names():
                    for other in web.names():
                        if one != other:
                            found = {at.index(one) < at.index(other) for at in rows}
                            want = "either" if len(found) == 2 else "ahead" if True in found else "behind"
                            self.assertEqual(turn_of(web, row, one, other), want)
                            ahead += [(one, other)] if want == "ahead" else []
                self.assertEqual(firm(web, row), tuple(ahead))

    def test_drawn(self):
        chance = random.Random(58)
        words = {"ahead": "behind", "behind": "ahead", "either": "either"}
        for web in drawn_webs(59, 2):
            row = drawn_row(chance, web)
            told = firm(web, row)
            check_told(self, firm, {"web": web, "row": row}, told)
            self.assertEqual(told, tuple(sorted(told)))
            for k in range(8 if len(web) > 1 else 0):
                one, other = chance.sample(web.names(), 2)
                word = turn_of(web, row, one, other)
                check_told(self, turn_of, {"web": web, "row": row, "one": one, "other": other}, word)
                self.assertEqual(turn_of(web, row, other, one), words[word])
                self.assertIs((one, other) in told, word == "ahead")
                end = plain_done(web, row, drawn_calls(chance, web, 20))
                self.assertIn(word, ("either", "ahead" if end.index(one) < end.index(other) else "behind"))

    def test_leaders_stay_in_their_turn(self):
        for persons in (ALONE, LEADERS):
            web = Web(persons)
            row = web.names()[::-1]
            want = tuple(sorted((one, other) for k, one in enumerate(row) for other in row[k + 1:]))
            check_told(self, firm, {"web": web, "row": row}, want)

    def test_refused(self):
        web = Web(CHAIN)
        good = {"web": web, "row": ("d", "b", "a", "c"), "one": "c", "other": "a"}
        names = wrong_names_of(web)
        wrong = [("web", wrong_webs()), ("row", wrong_rows()), ("one", names), ("other", names + [("c", "Same", "c")])]
        check_refusals(self, turn_of, good, wrong)
        for name in web.names():
            check_refused(self, turn_of, {**good, "one": name, "other": name}, "Same", name)
        check_refusals(self, firm, {"web": web, "row": ("d", "b", "a", "c")}, wrong[:2])

    def test_same_behind_no_name(self):
        for thing in ("no", 5, None):
            check_refused(self, turn_of, {"web": Web(ALONE), "row": ("a",), "one": thing, "other": thing}, "NoName", thing)
        check_refused(self, turn_of, {"web": Web(ALONE), "row": ("a",), "one": "a", "other": "a"}, "Same", "a")


if __name__ == "__main__":
    unittest.main()
