import random
import unittest

from heelrow.books import tells, web_for
from heelrow.checker import holds
from heelrow.papers import paper_alike, paper_book, paper_piles, paper_share, paper_torn, paper_way
from heelrow.piles import alike, piles
from heelrow.runs import bar, runs
from heelrow.shares import share
from heelrow.torn import readings
from heelrow.turns import stands, way
from heelrow.webs import Web
from tests.helper import (
    ALONE, CHAIN, LEADERS, SEVERAL, STAR, TWELVE, all_piles, all_rows, all_wishes, as_pair, check_last, check_refusals,
    check_refused, check_told, drawn_book, drawn_calls, drawn_piles, drawn_row, drawn_torn, drawn_webs, drawn_weights,
    drawn_wish, loose_book, plain_comes, plain_readings, plain_share, plain_steps, plain_tells,
    plain_tree, small_webs, stands_so, steps_from, wrong_books, wrong_calls, wrong_piles, wrong_rows, wrong_torn,
    wrong_webs, wrong_weights, wrong_wholes, wrong_wishes,
)

MOSTS = wrong_wholes("NoCount", 1, 20000)
DBAC = ("d", "b", "a", "c")


class Checked(unittest.TestCase):
    def check_paper(self, asked, given, claims, **named):
        """The claim is one of these, the checker takes it, and with the same paper none of the others."""
        told = asked(**given, **named)
        check_told(self, asked, given, told, **named)
        self.assertEqual(len(told), 2)
        claim, paper = told
        self.assertIs(type(claim), tuple)
        self.assertIn(claim, claims)
        self.assertIs(holds(claim, paper), True, told)
        for other in claims:
            if other != claim:
                self.assertIs(holds(other, paper), False)
        return told


class OfPiles(Checked):
    def test_alike(self):
        chance = random.Random(130)
        words = []
        for web in drawn_webs(131, 4):
            one, other = drawn_calls(chance, web, 5), drawn_calls(chance, web, 5)
            for two in (one, one + one[-1:], other, other[:1], one[1:] + one[:1]):
                claims = [(word, web.persons, one, two) for word in ("alike", "parted")]
                claim, paper = self.check_paper(paper_alike, {"web": web, "calls": one, "other": two}, claims)
                self.assertEqual(claim[0], "alike" if alike(web, one, two) else "parted")
                words.append(claim[0])
        self.assertGreater(min(words.count("alike"), words.count("parted")), 50)

    def test_small_piles_whole(self):
        for persons in small_webs("abc") + small_webs("abcd")[::40]:
            web = Web(persons)
            come = plain_comes(web)
            for some in all_piles(web):
                few = come[some][0] if some in come else None
                claims = [("barred", persons, some)] + [("fewest", persons, some, many) for many in range(12)]
                claim, paper = self.check_paper(paper_piles, {"web": web, "piles": some}, claims)
                self.assertEqual(claim[3] if claim[0] == "fewest" else None, few)

    def test_drawn_piles(self):
        chance = random.Random(132)
        for web in drawn_webs(133, 4):
            for some in (piles(web, drawn_calls(chance, web, 9)), piles(web, drawn_calls(chance, web, 400)),
                         drawn_piles(chance, web)):
                barred = bar(web, some)
                if barred is None:
                    many = sum(count for name, count in runs(web, some))
                    claim, paper = self.check_paper(
                        paper_piles, {"web": web, "piles": some}, [("fewest", web.persons, some, many)])
                    self.assertEqual(len(paper), many)
                else:
                    told = self.check_paper(paper_piles, {"web": web, "piles": some}, [("barred", web.persons, some)])
                    self.assertEqual(told[1], barred)

    def test_refused(self):
        good = {"web": Web(CHAIN), "calls": ("b",) * 400, "other": ("d", "c")}
        wrong = [("web", wrong_webs()), ("calls", wrong_calls()), ("other", wrong_calls())]
        check_refusals(self, paper_alike, good, wrong)
        check_refusals(self, paper_alike, {**good, "other": ("b",)}, wrong)
        for some in ((("a", "b"), ("c",), (), ("d",)), (("d",), ("c",), ("b",), ("a",))):
            given = {"web": Web(CHAIN), "piles": some}
            check_refusals(self, paper_piles, given, [("web", wrong_webs()), ("piles", wrong_piles())])


class OfWays(Checked):
    def check_way(self, web, row, wish, **named):
        calls = way(web, row, wish, most=20000)
        claims = [("never", web.persons, row, wish)]
        claims += [("nearest", web.persons, row, wish, many) for many in range(40)]
        claim, paper = self.check_paper(paper_way, {"web": web, "row": row, "wish": wish}, claims, **named)
        self.assertEqual(claim[4] if claim[0] == "nearest" else None, None if calls is None else len(calls))
        return claim[0]

    def test_small_webs_whole(self):
        for persons in small_webs("abc") + small_webs("abcd")[::25]:
            web = Web(persons)
            for row in all_rows(web)[::5]:
                steps = steps_from(web, row)
                for wish in all_wishes(web):
                    near = min([steps[one] for one in steps if stands_so(one, wish)], default=None)
                    self.check_way(web, row, wish)
                    claim, paper = paper_way(web, row, wish)
                    self.assertEqual(claim[4] if claim[0] == "nearest" else None, near)

    def test_drawn(self):
        chance = random.Random(134)
        words = []
        for web in drawn_webs(135, 3):
            for many in (1, 2, 3, 5):
                words.append(self.check_way(web, drawn_row(chance, web), drawn_wish(chance, web, many), most=20000))
        self.assertGreater(min(words.count("never"), words.count("nearest")), 30)

    def test_far_off(self):
        web = Web(TWELVE)
        row = web.names()[::-1]
        self.assertEqual(self.check_way(web, row, tuple("adgjl")), "nearest")
        self.assertEqual(self.check_way(web, row, tuple("abcdef")), "nearest")
        self.assertEqual(self.check_way(web, web.names(), ("l", "a")), "never")
        self.assertEqual(self.check_way(Web(ALONE), ("a",), ("a",)), "nearest")
        self.assertEqual(paper_way(Web(ALONE), ("a",), ("a",)), (("nearest", ALONE, ("a",), ("a",), 0), ((), ())))
        leaders = Web(LEADERS)
        self.assertEqual(self.check_way(leaders, leaders.names(), leaders.names()[::-1]), "never")

    def test_refused(self):
        good = {"web": Web(CHAIN), "row": DBAC, "wish": ("c", "b", "d"), "most": 20000}
        wrong = [("web", wrong_webs()), ("row", wrong_rows()), ("wish", wrong_wishes()), ("most", MOSTS)]
        check_refusals(self, paper_way, good, wrong)
        check_last(self, paper_way, {**good, "wish": ("b", "c"), "most": 4}, wrong, 4)
        given = {"web": Web(TWELVE), "row": Web(TWELVE).names(), "wish": tuple("abcdefghi")}
        check_refused(self, paper_way, given, "TooMany", 2000)
        self.assertIs(holds(*paper_way(**given, most=4862)), True)


class OfShares(Checked):
    def test_drawn(self):
        chance = random.Random(136)
        for web in drawn_webs(137, 3):
            for many in (1, 2, 4):
                row, weights, wish = drawn_row(chance, web), drawn_weights(chance, web), drawn_wish(chance, web, many)
                given = {"web": web, "row": row, "weights": weights, "wish": wish}
                want = as_pair(plain_share(**given))
                claims = [("share", web.persons, row, weights, wish, one) for one in {want, (0, 1), (1, 1), (1, 2)}]
                claim, paper = self.check_paper(paper_share, given, claims, most=20000)
                self.assertEqual(claim[5], want)
                self.assertEqual(claim[5], share(**given, most=20000))
                self.assertEqual(tuple(stand for stand, part in paper), stands(web, wish, most=20000))

    def test_edges(self):
        given = {"web": Web(ALONE), "row": ("a",), "weights": (), "wish": ("a",)}
        self.assertEqual(paper_share(**given), (("share", ALONE, ("a",), (), ("a",), (1, 1)), ((("a",), (1, 1)),)))
        web = Web(TWELVE)
        given = {"web": web, "row": web.names(), "weights": (999,) * 10 + (1,), "wish": tuple("abcdefgh")}
        self.assertIs(holds(*paper_share(**given)), True)

    def test_refused(self):
        good = {"web": Web(CHAIN), "row": DBAC, "weights": (1, 1000, 3), "wish": ("b", "d"), "most": 2000}
        wrong = [("web", wrong_webs()), ("row", wrong_rows()), ("weights", wrong_weights()), ("wish", wrong_wishes()),
                 ("most", MOSTS)]
        check_refusals(self, paper_share, good, wrong)
        check_last(self, paper_share, {**good, "most": 1}, wrong, 1)
        given = {"web": Web(TWELVE), "row": Web(TWELVE).names(), "weights": (1,) * 11, "wish": tuple("abcdefghi")}
        check_refused(self, paper_share, given, "TooMany", 2000)


class OfTorn(Checked):
    def check_torn(self, web, row, wish, torn, **named):
        claims = [(word, web.persons, row, wish, torn) for word in ("reads", "torn")]
        given = {"web": web, "row": row, "wish": wish, "torn": torn}
        claim, paper = self.check_paper(paper_torn, given, claims, **named)
        self.assertEqual(claim[0], "reads" if readings(web, row, wish, torn, most=20000) else "torn")
        return claim[0], paper

    def test_small_webs_whole(self):
        chance = random.Random(138)
        for persons in small_webs("abc") + small_webs("abcd")[::20]:
            web = Web(persons)
            for row in all_rows(web)[::3]:
                for wish in all_wishes(web)[::3]:
                    torn = drawn_torn(chance, web, chance.randrange(5), 5)
                    word, paper = self.check_torn(web, row, wish, torn)
                    found = plain_readings(web, row, wish, torn)
                    self.assertEqual(word, "reads" if found else "torn")
                    if found:
                        self.assertIn(paper, found)

    def test_drawn(self):
        chance = random.Random(139)
        words = []
        for web in drawn_webs(140, 2):
            for many in (0, 1, 3, 8, 30):
                row, wish = drawn_row(chance, web), drawn_wish(chance, web, 3)
                words.append(self.check_torn(web, row, wish, drawn_torn(chance, web, many, 5), most=20000)[0])
        self.assertGreater(min(words.count("reads"), words.count("torn")), 30)

    def test_edges(self):
        self.assertEqual(self.check_torn(Web(CHAIN), DBAC, ("d", "c"), ()), ("reads", ()))
        self.assertEqual(self.check_torn(Web(CHAIN), DBAC, ("c", "d"), ()), ("torn", ((("c", "d"),),)))
        self.assertEqual(self.check_torn(Web(LEADERS), Web(LEADERS).names(), ("a",), (None,)), ("torn", ((("a",),), ())))

    def test_refused(self):
        good = {"web": Web(CHAIN), "row": DBAC, "wish": ("c", "d"), "torn": (None, "b") * 15, "most": 20000}
        wrong = [("web", wrong_webs()), ("row", wrong_rows()), ("wish", wrong_wishes()), ("torn", wrong_torn()),
                 ("most", MOSTS)]
        check_refusals(self, paper_torn, good, wrong)
        check_last(self, paper_torn, {**good, "most": 1}, wrong, 1)
        given = {"web": Web(TWELVE), "row": Web(TWELVE).names(), "wish": tuple("abcdefghi"), "torn": ()}
        check_refused(self, paper_torn, given, "TooMany", 2000)


class OfBooks(Checked):
    def check_book(self, book):
        word, found = web_for(book)
        claims = [("untold", book)] + ([("tells", found, book)] if word == "web" else [])
        claim, paper = self.check_paper(paper_book, {"book": book}, claims)
        if word == "web":
            self.assertEqual((claim, paper), (("tells", found, book), None))
            self.assertTrue(plain_tells(found, book))
            self.assertIs(tells(Web(found), book), True)
        else:
            self.assertEqual((claim, paper), (("untold", book), found))
            self.assertTrue(plain_tree(plain_steps(book), paper))
        return claim[0]

    def test_drawn(self):
        chance = random.Random(141)
        words = []
        for web in drawn_webs(142, 2):
            for many in (1, 2, 5, 12, 40):
                self.assertEqual(self.check_book(drawn_book(chance, web, many)), "tells")
                words.append(self.check_book(loose_book(chance, web.names(), many)))
        self.assertGreater(min(words.count("tells"), words.count("untold")), 30)

    def test_small_ones_by_all_webs(self):
        chance = random.Random(143)
        webs = small_webs("abc")
        for k in range(80):
            book = loose_book(chance, "abc", chance.choice((2, 3, 4, 5)))
            some = [persons for persons in webs if plain_tells(persons, book)]
            self.assertEqual(self.check_book(book), "tells" if some else "untold")

    def test_refused(self):
        for good in ((("a", "b"),), (("a", "b"), ("b", "a"), ("a", "b"))):
            check_refusals(self, paper_book, {"book": good}, [("book", wrong_books())])


class Changed(unittest.TestCase):
    def test_a_paper_for_another_row(self):
        chance = random.Random(144)
        words = []
        for persons in (SEVERAL, TWELVE, STAR):
            web = Web(persons)
            for k in range(40):
                row, other, wish = drawn_row(chance, web), drawn_row(chance, web), drawn_wish(chance, web, 3)
                claim, paper = paper_way(web, row, wish)
                if holds(claim[:2] + (other,) + claim[3:], paper):
                    # What is taken is so, of the other row too.
                    self.assertEqual(paper_way(web, other, wish)[0], claim[:2] + (other,) + claim[3:])
                    words.append(claim[0])
        self.assertGreater(min(words.count("never"), words.count("nearest")), 3)


if __name__ == "__main__":
    unittest.main()
