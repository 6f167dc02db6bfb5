import random
import unittest

from heelrow.rows import called, done, is_row
from heelrow.webs import Web
from tests.helper import (
    ALONE, CHAIN, LEADERS, SEVERAL, STAR, TWELVE, all_rows, check_refusals, check_refused, check_told, drawn_calls,
    drawn_row, drawn_webs, plain_called, plain_done, small_webs, wrong_calls, wrong_kinds, wrong_names_of, wrong_rows,
    wrong_webs,
)


class IsRow(unittest.TestCase):
    def test_rows_in_any_turn(self):
        chance = random.Random(1)
        for web in drawn_webs(2, 3):
            for k in range(5):
                check_told(self, is_row, {"web": web, "thing": drawn_row(chance, web)}, True)

    def test_small_webs_whole(self):
        for persons in small_webs("abc"):
            web = Web(persons)
            rows = all_rows(web)
            for row in [(x, y, z) for x in "abcd" for y in "abcd" for z in "abcd"]:
                self.assertIs(is_row(web, row), row in rows)

    def test_of_any_kind(self):
        for thing, name, place in wrong_rows():
            for persons in (CHAIN, STAR):
                check_told(self, is_row, {"web": Web(persons), "thing": thing}, False)
        for thing in wrong_kinds() + [(), ("b",), ("a", "a"), "a", Web(ALONE), (("a",),), (["a"],), (True,)]:
            self.assertIs(is_row(Web(ALONE), thing), False)
        self.assertIs(is_row(Web(ALONE), ("a",)), True)

    def test_no_web(self):
        for thing in (("a", "b", "c", "d"), 5, None, []):
            check_refusals(self, is_row, {"web": Web(CHAIN), "thing": thing}, [("web", wrong_webs())])


class Called(unittest.TestCase):
    def test_told(self):
        web = Web(SEVERAL)
        row = ("gus", "cy", "fay", "bob", "ann", "dee", "eve")
        self.assertEqual(called(web, row, "cy"), ("gus", "fay", "bob", "cy", "ann", "dee", "eve"))
        self.assertEqual(called(web, row, "bob"), ("gus", "cy", "fay", "ann", "bob", "dee", "eve"))
        self.assertEqual(called(web, row, "fay"), ("gus", "cy", "bob", "ann", "dee", "eve", "fay"))
        self.assertEqual(called(web, row, "dee"), row)

    def test_against_a_plain_reckoning(self):
        chance = random.Random(3)
        for web in drawn_webs(4, 3):
            for name in web.callable():
                row = drawn_row(chance, web)
                check_told(self, called, {"web": web, "row": row, "name": name}, plain_called(web, row, name))

    def test_small_webs_whole(self):
        for persons in small_webs("abc"):
            web = Web(persons)
            for row in all_rows(web):
                for name in web.callable():
                    self.assertEqual(called(web, row, name), plain_called(web, row, name))

    def test_refused(self):
        web = Web(CHAIN)
        names = wrong_names_of(web) + [("a", "Leads", "a")]
        good = {"web": web, "row": ("d", "b", "a", "c"), "name": "c"}
        check_refusals(self, called, good, [("web", wrong_webs()), ("row", wrong_rows()), ("name", names)])

    def test_who_leads(self):
        for web in drawn_webs(5, 2):
            for name in web.leaders():
                check_refused(self, called, {"web": web, "row": web.names(), "name": name}, "Leads", name)


class Done(unittest.TestCase):
    def test_told(self):
        web = Web(SEVERAL)
        row = ("gus", "cy", "fay", "bob", "ann", "dee", "eve")
        self.assertEqual(done(web, row, ()), row)
        self.assertEqual(done(web, row, ("cy", "bob", "cy")), ("gus", "fay", "ann", "bob", "cy", "dee", "eve"))
        self.assertEqual(done(Web(ALONE), ("a",), ()), ("a",))
        self.assertEqual(done(Web(LEADERS), ("ab", "a", "abcdef", "aa"), ()), ("ab", "a", "abcdef", "aa"))

    def test_one_by_one(self):
        chance = random.Random(6)
        for web in drawn_webs(7, 2):
            for many in (0, 1, 5, 60, 400):
                row, calls = drawn_row(chance, web), drawn_calls(chance, web, many)
                check_told(self, done, {"web": web, "row": row, "calls": calls}, plain_done(web, row, calls))

    def test_bound(self):
        row = TWELVE[0][0], *[name for name, whom in TWELVE[:0:-1]]
        web = Web(TWELVE)
        self.assertEqual(done(web, row, ("l", "b") * 200), plain_done(web, row, ("l", "b")))
        check_refused(self, done, {"web": web, "row": row, "calls": ("l", "b") * 200 + ("b",)}, "NoCalls", None)

    def test_refused(self):
        good = {"web": Web(CHAIN), "row": ("d", "b", "a", "c"), "calls": ("c", "b", "d", "d")}
        wrong = [("web", wrong_webs()), ("row", wrong_rows()), ("calls", wrong_calls())]
        check_refusals(self, done, good, wrong)

    def test_nobody_can_be_called_where_nobody_follows(self):
        for persons in (ALONE, LEADERS):
            web = Web(persons)
            check_refused(self, done, {"web": web, "row": web.names(), "calls": ("a",)}, "NoCalls", 0)


if __name__ == "__main__":
    unittest.main()
