import random
import unittest

from heelrow.bounds import BIG
from heelrow.piles import again, alike, behind, idle, laid, parting, piles
from heelrow.webs import Web
from tests.helper import (
    ALONE, CHAIN, LEADERS, SEVERAL, STAR, TWELVE, all_piles, all_rows, check_refusals, check_refused, check_told,
    drawn_calls, drawn_piles, drawn_row, drawn_webs, plain_done, plain_laid, small_webs, wrong_calls, wrong_piles,
    wrong_rows, wrong_webs, wrong_wholes,
)

TURNED = (("b",), ("c",), ("d",), ("a",))
HOME = (("a",), ("b",), ("c",), ("d",))


def few_calls(web, most):
    """All rows of at most so many calls."""
    found = level = [()]
    for k in range(most):
        level = [calls + (name,) for calls in level for name in web.callable()]
        found = found + level
    return found


def plain_table(web, calls):
    """Where these calls lead from every row of a small web."""
    return [plain_done(web, row, calls) for row in all_rows(web)]


class Laid(unittest.TestCase):
    def test_told(self):
        web = Web(CHAIN)
        told = laid(web, ("c", "a", "d", "b"), (("b", "a"), (), ("d",), ("c",)))
        self.assertEqual(told, ("d", "b", "a", "c"))
        self.assertEqual(laid(web, ("c", "a", "d", "b"), HOME), ("c", "a", "d", "b"))
        self.assertEqual(laid(web, ("c", "a", "d", "b"), ((), (), (), ("b", "c", "d", "a"))), ("b", "c", "d", "a"))
        self.assertEqual(laid(Web(ALONE), ("a",), (("a",),)), ("a",))

    def test_against_a_plain_reckoning(self):
        chance = random.Random(10)
        for web in drawn_webs(11, 3):
            for k in range(3):
                row, some = drawn_row(chance, web), drawn_piles(chance, web)
                check_told(self, laid, {"web": web, "row": row, "piles": some}, plain_laid(web, row, some))

    def test_refused(self):
        good = {"web": Web(CHAIN), "row": ("d", "b", "a", "c"), "piles": TURNED}
        wrong = [("web", wrong_webs()), ("row", wrong_rows()), ("piles", wrong_piles())]
        check_refusals(self, laid, good, wrong)

    def test_every_pile_wrong_in_its_turn(self):
        web = Web(TWELVE)
        home = tuple((name,) for name in web.names())
        for place in range(12):
            for thing in (None, "a", ["a"], (1,), ("no",), home[place] + home[place], ({},)):
                some = home[:place] + (thing,) + home[place + 1:]
                check_refused(self, laid, {"web": web, "row": web.names(), "piles": some}, "NoPiles", place)
                check_refused(self, laid, {"web": web, "row": web.names(), "piles": some + ((),)}, "NoPiles", None)
            some = home[:place] + ((),) + home[place + 1:]
            check_refused(self, laid, {"web": web, "row": web.names(), "piles": some}, "NoPiles", None)


class Piles(unittest.TestCase):
    def test_told(self):
        web = Web(CHAIN)
        self.assertEqual(piles(web, ()), HOME)
        self.assertEqual(piles(web, ("b",)), (("a", "b"), (), ("c",), ("d",)))
        self.assertEqual(piles(web, ("b", "c")), (("a", "b", "c"), (), (), ("d",)))
        self.assertEqual(piles(web, ("c", "b")), (("a", "b"), ("c",), (), ("d",)))
        self.assertEqual(piles(web, ("d", "b", "d")), (("a", "b"), (), ("c", "d"), ()))
        self.assertEqual(piles(Web(STAR), ("a", "z")), ((), ("b",), ("mid", "z", "a"), ()))
        self.assertEqual(piles(Web(ALONE), ()), (("a",),))
        self.assertEqual(piles(Web(LEADERS), ()), (("a",), ("aa",), ("ab",), ("abcdef",)))

    def test_calls_lead_to_what_is_laid(self):
        chance = random.Random(12)
        for web in drawn_webs(13, 2):
            for many in (0, 1, 3, 12, 50, 400):
                calls = drawn_calls(chance, web, many)
                told = piles(web, calls)
                check_told(self, piles, {"web": web, "calls": calls}, told)
                self.assertEqual(sorted(sum(told, ())), list(web.names()))
                for k in range(4):
                    row = drawn_row(chance, web)
                    self.assertEqual(laid(web, row, told), plain_done(web, row, calls))

    def test_read_from_behind(self):
        chance = random.Random(14)
        for web in drawn_webs(15, 2):
            calls = drawn_calls(chance, web, 20)
            at = {name: [name] for name in web.names()}
            for name in reversed(calls):
                at[web.whom(name)] += at[name]
                at[name] = []
            self.assertEqual(piles(web, calls), tuple(tuple(at[name]) for name in web.names()))

    def test_refused(self):
        good = {"web": Web(CHAIN), "calls": ("b",) * 400}
        check_refusals(self, piles, good, [("web", wrong_webs()), ("calls", wrong_calls())])


class Behind(unittest.TestCase):
    def test_told(self):
        web = Web(CHAIN)
        told = behind(web, (("b", "a"), (), ("d",), ("c",)), (("c",), ("d", "b"), (), ("a",)))
        self.assertEqual(told, (("d", "b", "c"), (), ("a",), ()))
        self.assertEqual(behind(web, TURNED, TURNED), (("c",), ("d",), ("a",), ("b",)))
        self.assertEqual(behind(web, HOME, TURNED), TURNED)
        self.assertEqual(behind(web, TURNED, HOME), TURNED)

    def test_lays_other_on_what_piles_lay(self):
        chance = random.Random(16)
        for web in drawn_webs(17, 3):
            for k in range(3):
                one, other, row = drawn_piles(chance, web), drawn_piles(chance, web), drawn_row(chance, web)
                told = behind(web, one, other)
                check_told(self, behind, {"web": web, "piles": one, "other": other}, told)
                self.assertEqual(laid(web, row, told), plain_laid(web, plain_laid(web, row, one), other))

    def test_of_calls(self):
        chance = random.Random(18)
        for web in drawn_webs(19, 3):
            one, other = drawn_calls(chance, web, 9), drawn_calls(chance, web, 7)
            self.assertEqual(behind(web, piles(web, one), piles(web, other)), piles(web, one + other))

    def test_refused(self):
        good = {"web": Web(CHAIN), "piles": HOME, "other": TURNED}
        wrong = [("web", wrong_webs()), ("piles", wrong_piles()), ("other", wrong_piles())]
        check_refusals(self, behind, good, wrong)


class Again(unittest.TestCase):
    def test_few_times(self):
        chance = random.Random(20)
        for web in drawn_webs(21, 2):
            some = drawn_piles(chance, web)
            want = tuple((name,) for name in web.names())
            for times in range(9):
                check_told(self, again, {"web": web, "piles": some, "times": times}, want)
                want = behind(web, want, some)

    def test_round_for_ever(self):
        web = Web(CHAIN)
        for times in (0, 1, 2, 3, 4, 5, 6, 7, 8, BIG, BIG - 1, BIG - 2, BIG - 3):
            names = "abcd" * 2
            want = tuple((names[k + times % 4],) for k in range(4))
            self.assertEqual(again(web, TURNED, times), want)

    def test_rounds_of_unlike_lengths(self):
        # Rounds of 5, 4 and 3 persons: together they come home behind sixty times.
        web = Web(TWELVE)
        rounds = ("abcde", "fghi", "jkl")
        step = {ring[k]: ring[(k + 1) % len(ring)] for ring in rounds for k in range(len(ring))}
        some = tuple((step[name],) for name in web.names())
        want = [tuple((name,) for name in web.names())]
        for k in range(60):
            want.append(behind(web, want[-1], some))
        self.assertEqual(want[60], want[0])
        for times in (59, 60, 61, BIG, BIG - 1, 3 ** 60, 10 ** 29 + 7):
            self.assertEqual(again(web, some, times), want[times % 60])

    def test_of_calls(self):
        chance = random.Random(22)
        for web in drawn_webs(23, 3):
            calls, row = drawn_calls(chance, web, 8), drawn_row(chance, web)
            self.assertEqual(laid(web, row, again(web, piles(web, calls), 30)), plain_done(web, row, calls * 30))
            # Calls done a dozen times do the same for ever.
            self.assertEqual(again(web, piles(web, calls), BIG), piles(web, calls * 12))

    def test_edges(self):
        some = (("c", "a"), (), ("b",), ("d",))
        self.assertEqual(again(Web(CHAIN), some, 0), HOME)
        self.assertEqual(again(Web(CHAIN), some, 1), some)
        self.assertEqual(again(Web(ALONE), (("a",),), BIG), (("a",),))
        check_refused(self, again, {"web": Web(CHAIN), "piles": some, "times": BIG + 1}, "NoCount", BIG + 1)
        check_refused(self, again, {"web": Web(CHAIN), "piles": some, "times": -1}, "NoCount", -1)

    def test_refused(self):
        good = {"web": Web(CHAIN), "piles": TURNED, "times": BIG}
        wrong = [("web", wrong_webs()), ("piles", wrong_piles()), ("times", wrong_wholes("NoCount", 0, BIG))]
        check_refusals(self, again, good, wrong)


class Alike(unittest.TestCase):
    def test_told(self):
        web = Web(SEVERAL)
        self.assertIs(alike(web, ("bob", "fay"), ("fay", "bob")), True)
        self.assertIs(alike(web, ("bob", "dee"), ("dee", "bob")), False)
        self.assertIs(alike(web, ("bob", "bob"), ("bob",)), True)
        self.assertIs(alike(web, (), ()), True)
        self.assertIs(alike(web, (), ("cy",)), False)
        self.assertIs(alike(Web(ALONE), (), ()), True)
        self.assertIsNone(parting(web, ("bob", "fay"), ("fay", "bob")))
        self.assertIsNone(parting(Web(LEADERS), (), ()))

    def check_pair(self, web, one, other, same):
        given = {"web": web, "calls": one, "other": other}
        check_told(self, alike, given, same)
        row = parting(web, one, other)
        check_told(self, parting, given, row)
        if same:
            self.assertIsNone(row)
        else:
            self.assertEqual(tuple(sorted(row)), web.names())
            self.assertIs(type(row), tuple)
            self.assertNotEqual(plain_done(web, row, one), plain_done(web, row, other))

    def test_small_webs_whole(self):
        for persons in small_webs("abc") + [CHAIN, STAR, (("a", None), ("b", None), ("c", "a"), ("d", "c"))]:
            web = Web(persons)
            tables = [(calls, plain_table(web, calls)) for calls in few_calls(web, 3 if len(web) == 3 else 2)]
            for one, table in tables:
                for other, more in tables:
                    self.check_pair(web, one, other, table == more)

    def test_drawn(self):
        chance = random.Random(24)
        for web in drawn_webs(25, 4):
            for many in (1, 2, 4, 10, 400):
                one = drawn_calls(chance, web, many)
                other = list(one)
                if len(web.callable()) > 1:
                    at = chance.randrange(many)
                    other[at:at + 2] = reversed(other[at:at + 2])
                same = all(plain_done(web, row, one) == plain_done(web, row, other)
                           for row in [drawn_row(chance, web) for k in range(40)])
                if same:
                    # Forty rows may fail to part them, so only what is told to part them is looked at.
                    same = parting(web, one, tuple(other)) is None
                self.check_pair(web, one, tuple(other), same)

    def test_refused(self):
        good = {"web": Web(CHAIN), "calls": ("b",) * 400, "other": ("d", "c")}
        wrong = [("web", wrong_webs()), ("calls", wrong_calls()), ("other", wrong_calls())]
        check_refusals(self, alike, good, wrong)
        check_refusals(self, parting, good, wrong)
        check_refusals(self, parting, {**good, "other": ("b",)}, wrong)


class Idle(unittest.TestCase):
    def test_told(self):
        web = Web(CHAIN)
        self.assertEqual(idle(web, ()), ())
        self.assertEqual(idle(web, ("b",)), ())
        self.assertEqual(idle(web, ("b", "b")), (0, 1))
        self.assertEqual(idle(web, ("b", "c", "b")), (2,))
        self.assertEqual(idle(web, ("d", "c", "d")), (0,))
        self.assertEqual(idle(web, ("b", "d", "b")), (0, 2))
        self.assertEqual(idle(web, ("b", "d", "c")), ())
        self.assertEqual(idle(Web(STAR), ("a", "b", "a")), (0,))
        self.assertEqual(idle(web, ("b",) * 400), tuple(range(400)))

    def test_small_webs_whole(self):
        for persons in small_webs("abc"):
            web = Web(persons)
            for calls in few_calls(web, 4):
                table = plain_table(web, calls)
                want = [k for k in range(len(calls)) if plain_table(web, calls[:k] + calls[k + 1:]) == table]
                check_told(self, idle, {"web": web, "calls": calls}, tuple(want))

    def test_drawn(self):
        chance = random.Random(26)
        for web in drawn_webs(27, 1):
            for many in (5, 12, 400):
                calls = drawn_calls(chance, web, many)
                told = idle(web, calls)
                check_told(self, idle, {"web": web, "calls": calls}, told)
                for at in range(0, len(calls), 1 if many < 400 else 37):
                    self.assertIs(at in told, alike(web, calls, calls[:at] + calls[at + 1:]))

    def test_refused(self):
        good = {"web": Web(CHAIN), "calls": ("b", "c") * 200}
        check_refusals(self, idle, {**good, "calls": ("b", "c")}, [("web", wrong_webs()), ("calls", wrong_calls())])
        self.assertEqual(idle(**good), tuple(range(400)))


class Laying(unittest.TestCase):
    def test_two_piles_lay_alike_just_where_they_are_the_same(self):
        # Of piles that calls lay; those of no calls may all stand at one person or at another.
        web = Web(CHAIN[:3])
        come = {piles(web, calls) for calls in few_calls(web, 6)}
        tables = {some: tuple(plain_laid(web, row, some) for row in all_rows(web)) for some in all_piles(web)}
        self.assertEqual(len({tables[some] for some in come}), len(come))


if __name__ == "__main__":
    unittest.main()
