import random
import unittest

from heelrow.books import steps, sure, tells, web_for, webs_many
from heelrow.webs import Web
from tests.helper import (
    ALONE, CHAIN, LEADERS, SEVERAL, STAR, TWELVE, TWELVE_STAR, check_last, check_refusals, check_refused, check_told,
    drawn_book, drawn_web, drawn_webs, loose_book, plain_called, plain_clash, plain_follows, plain_steps, plain_tells,
    plain_tree, small_webs, wrong_books, wrong_webs, wrong_wholes,
)

MOSTS = wrong_wholes("NoCount", 1, 20000)
ABC = ("a", "b", "c")
# By its steps c follows a and d; by those of the other one a follows b and b follows a.
TWO = (("c", "a", "b", "d"), ("a", "c", "b", "d"), ("a", "b", "d", "c"))
RING = (ABC, ("b", "a", "c"), ABC)


def small_books():
    """Books of few names: of webs, of loose steps, and of both."""
    chance = random.Random(80)
    found = [(("a",),), (("a",),) * 40, (ABC,), (ABC,) * 40, TWO, TWO[:2], TWO + TWO[::-1], RING, RING[:2]]
    for many in (1, 2, 3, 4):
        for k in range(30):
            web = drawn_web(chance, many)
            book = drawn_book(chance, web, chance.choice((1, 2, 3, 5, 9)))
            found.append(book)
            found.append(loose_book(chance, web.names(), chance.choice((2, 3, 4, 6))))
            found.append(book + loose_book(chance, web.names(), 3)[1:])
    return found


def webs_of(book, known={}):
    """The persons of all webs of a small book's names that tell it."""
    names = tuple(sorted(book[0]))
    if names not in known:
        known[names] = small_webs(names)
    return [persons for persons in known[names] if plain_tells(persons, book)]


def plain_book(web):
    """A book of all calls, each of who stands first to far off, where the only one who leads stands last."""
    row = tuple(plain_follows(web)) + web.leaders()
    book = [row]
    for name in plain_follows(web):
        book.append(plain_called(web, book[-1], name))
    return tuple(book)


def can_be_met(ways, taken=()):
    """Whether some web meets all steps, taken one by one."""
    if plain_clash(taken):
        return False
    left = [some for some in ways if not set(some) & set(taken)]
    return not left or any(can_be_met(left, taken + (way,)) for way in min(left, key=len))


class Steps(unittest.TestCase):
    def test_told(self):
        self.assertEqual(steps((ABC,)), ())
        self.assertEqual(steps((("a",), ("a",))), ((),))
        self.assertEqual(steps((ABC, ("b", "a", "c"))), ((("a", "b"),),))
        self.assertEqual(steps((ABC, ("a", "c", "b"))), ((("b", "c"), ("c", "a")),))
        self.assertEqual(steps((ABC, ("b", "c", "a"))), ((("a", "c"),),))
        # Nobody but who steps out comes to the front, so c can't.
        self.assertEqual(steps((ABC, ("c", "a", "b"))), ((),))
        self.assertEqual(steps((ABC, ("c", "b", "a"))), ((),))
        self.assertEqual(steps((ABC, ABC)), ((("b", "a"), ("c", "b")),))
        self.assertEqual(steps(TWO), ((("c", "a"),), (("c", "d"),)))
        self.assertEqual(steps(RING), ((("a", "b"),), (("b", "a"),)))

    def test_against_a_plain_reckoning(self):
        for book in small_books():
            check_told(self, steps, {"book": book}, plain_steps(book))

    def test_large(self):
        chance = random.Random(81)
        for web in drawn_webs(82, 1):
            for many in (1, 2, 40):
                book = drawn_book(chance, web, many)
                check_told(self, steps, {"book": book}, plain_steps(book))
                book = loose_book(chance, web.names(), many)
                check_told(self, steps, {"book": book}, plain_steps(book))

    def test_each_call_is_among_its_step(self):
        chance = random.Random(83)
        for web in drawn_webs(84, 1):
            if web.callable():
                row = tuple(chance.sample(web.names(), len(web)))
                for name in plain_follows(web):
                    told = steps((row, plain_called(web, row, name)))
                    self.assertIn((name, web.whom(name)), told[0])


class Tells(unittest.TestCase):
    def test_told(self):
        book = (ABC, ("a", "c", "b"))
        self.assertIs(tells(Web((("a", None), ("b", "c"), ("c", None))), book), True)
        self.assertIs(tells(Web((("a", None), ("b", None), ("c", "a"))), book), True)
        self.assertIs(tells(Web((("a", None), ("b", "a"), ("c", "b"))), book), False)
        self.assertIs(tells(Web((("a", None), ("b", None), ("c", None))), (ABC,)), True)

    def test_of_other_names_not(self):
        for persons in ((("a", None), ("b", "a")), CHAIN, (("a", None), ("b", "a"), ("d", "b")), ALONE):
            for book in ((ABC,), (ABC, ABC), RING[:2]):
                self.assertIs(tells(Web(persons), book), False)
        self.assertIs(tells(Web(ALONE), (("b",),)), False)
        self.assertIs(tells(Web(ALONE), (("a",),)), True)
        self.assertIs(tells(Web(ALONE), (("a",), ("a",))), False)

    def test_small_books_by_all_webs(self):
        for book in small_books()[::2]:
            for persons in small_webs(sorted(book[0]))[::2]:
                check_told(self, tells, {"web": Web(persons), "book": book}, plain_tells(persons, book))

    def test_a_web_tells_what_its_calls_make(self):
        chance = random.Random(85)
        for web in drawn_webs(86, 3):
            book = drawn_book(chance, web, 40)
            check_told(self, tells, {"web": web, "book": book}, True)

    def test_refused(self):
        good = {"web": Web(CHAIN), "book": (("a", "b", "c", "d"), ("b", "a", "c", "d"))}
        check_refusals(self, tells, good, [("web", wrong_webs()), ("book", wrong_books())])
        check_refusals(self, tells, {**good, "book": (ABC,)}, [("web", wrong_webs()), ("book", wrong_books())])


class WebFor(unittest.TestCase):
    def check_found(self, book):
        word, found = web_for(book)
        check_told(self, web_for, {"book": book}, (word, found))
        self.assertIn(word, ("web", "none"))
        if word == "web":
            self.assertEqual(Web(found).names(), tuple(sorted(book[0])))
            self.assertTrue(plain_tells(found, book))
        else:
            self.assertIs(plain_tree(plain_steps(book), found), True)
        return word

    def test_told(self):
        self.assertEqual(web_for((("a",),)), ("web", (("a", None),)))
        self.assertEqual(web_for((("a",), ("a",))), ("none", (0, ())))
        self.assertEqual(web_for((ABC, ("b", "a", "c"))), ("web", (("a", "b"), ("b", None), ("c", None))))
        self.assertEqual(web_for((ABC, ("c", "a", "b"))), ("none", (0, ())))
        self.assertEqual(web_for(TWO), ("none", (0, ((1, (None,)),))))
        self.assertEqual(web_for(RING), ("none", (0, ((1, (None,)),))))

    def test_small_books_by_all_webs(self):
        words = []
        for book in small_books():
            words.append(self.check_found(book))
            self.assertEqual(words[-1], "web" if webs_of(book) else "none")
        self.assertGreater(words.count("web"), 100)
        self.assertGreater(words.count("none"), 100)

    def test_what_calls_make_is_told(self):
        chance = random.Random(87)
        for web in drawn_webs(88, 4):
            for many in (1, 2, 7, 40):
                self.assertEqual(self.check_found(drawn_book(chance, web, many)), "web")

    def test_large_books_that_none_tells(self):
        chance = random.Random(89)
        words = []
        for many in (5, 8, 12):
            names = TWELVE[:many]
            for rows in (6, 10, 14, 18, 25, 40):
                for k in range(8):
                    words.append(self.check_found(loose_book(chance, [name for name, whom in names], rows)))
        self.assertGreater(words.count("none"), 60)
        self.assertGreater(words.count("web"), 5)

    def test_two_webs_one_behind_the_other(self):
        chance = random.Random(90)
        words = []
        for k in range(40):
            one, other = [Web(tuple((name, None if name == "a" else chance.choice("abcdefgh"[:"abcdefgh".index(name)]))
                                    for name in "abcdefgh")) for j in range(2)]
            book = list(drawn_book(chance, one, 18))
            for name in [chance.choice(plain_follows(other)) for j in range(22)]:
                book.append(plain_called(other, book[-1], name))
            words.append(self.check_found(tuple(book)))
        self.assertGreater(words.count("none"), 20)

    def test_refused(self):
        check_refusals(self, web_for, {"book": TWO}, [("book", wrong_books())])
        check_refusals(self, web_for, {"book": (ABC,) * 40}, [("book", wrong_books())])
        check_refusals(self, steps, {"book": (ABC,) * 40}, [("book", wrong_books())])


class WebsMany(unittest.TestCase):
    def test_told(self):
        self.assertEqual(webs_many((("a",),)), 1)
        self.assertEqual(webs_many((("a", "b"),)), 3)
        self.assertEqual(webs_many((ABC,)), 16)
        self.assertEqual(webs_many((tuple("abcdef"),), most=20000), 16807)
        self.assertEqual(webs_many((("a",), ("a",))), 0)

    def test_small_books_by_all_webs(self):
        for book in small_books():
            many = len(webs_of(book))
            check_told(self, webs_many, {"book": book}, many)
            if many > 0:
                check_told(self, webs_many, {"book": book}, many, most=many)
            if many > 1:
                check_refused(self, webs_many, {"book": book, "most": many - 1}, "TooMany", many - 1)

    def test_of_five(self):
        chance = random.Random(91)
        for k in range(12):
            web = drawn_web(chance, 5)
            book = drawn_book(chance, web, chance.choice((2, 3, 4, 6)))
            check_told(self, webs_many, {"book": book}, len(webs_of(book)))

    def test_just_one(self):
        for persons in (TWELVE, TWELVE_STAR):
            book = plain_book(Web(persons))
            self.assertEqual([len(ways) for ways in steps(book)], [1] * 11)
            check_told(self, webs_many, {"book": book}, 1)
            check_told(self, webs_many, {"book": book}, 1, most=1)

    def test_more_than_may_be_counted(self):
        for most in (1, 5, 2000, 20000):
            check_refused(self, webs_many, {"book": (tuple("abcdefghijkl"),), "most": most}, "TooMany", most)
            check_refused(self, webs_many, {"book": (tuple("abcdefghijkl"),) * 40, "most": most}, "TooMany", most)
        check_refused(self, webs_many, {"book": (tuple("abcdef"),)}, "TooMany", 2000)
        check_refused(self, webs_many, {"book": (tuple("abcdef"),), "most": 16806}, "TooMany", 16806)
        with self.assertRaises(TypeError):
            webs_many((ABC,), 20)

    def test_none_is_no_refusal(self):
        check_told(self, webs_many, {"book": TWO}, 0)
        check_told(self, webs_many, {"book": RING}, 0)
        check_told(self, webs_many, {"book": (ABC, ABC[::-1])}, 0, most=1)

    def test_refused(self):
        wrong = [("book", wrong_books()), ("most", MOSTS)]
        check_refusals(self, webs_many, {"book": (ABC, ABC), "most": 20000}, wrong)
        check_refusals(self, webs_many, {"book": (ABC, ABC)}, wrong[:1])
        check_last(self, webs_many, {"book": (ABC,), "most": 15}, wrong, 15)


class Sure(unittest.TestCase):
    def test_told(self):
        self.assertEqual(sure((ABC,)), ())
        self.assertEqual(sure((("a",),)), ())
        self.assertEqual(sure((ABC, ("b", "a", "c"))), (("a", "b"),))
        self.assertEqual(sure((ABC, ("a", "c", "b"))), ())
        self.assertEqual(sure((ABC, ("b", "c", "a"), ("b", "c", "a"))), (("a", "c"),))
        # In the second step a would follow c, or c follows b; but a follows b by the first.
        self.assertEqual(sure((ABC, ("b", "a", "c"), ("b", "c", "a"))), (("a", "b"), ("c", "b")))

    def test_small_books_by_all_webs(self):
        for book in small_books():
            webs = webs_of(book)
            if webs:
                common = set.intersection(*[set(persons) for persons in webs])
                check_told(self, sure, {"book": book}, tuple(sorted((one, whom) for one, whom in common if whom)))
            else:
                check_refused(self, sure, {"book": book}, "Untold", None)

    def test_large(self):
        chance = random.Random(92)
        for web in drawn_webs(93, 2):
            book = drawn_book(chance, web, 40)
            told = sure(book)
            check_told(self, sure, {"book": book}, told)
            self.assertTrue(set(told) <= set(web.persons))
            for one in web.names():
                for whom in web.names():
                    ways = [[way for way in ways if way != (one, whom)] for ways in plain_steps(book)]
                    if (one, whom) in web.persons:
                        self.assertIs((one, whom) in told, not can_be_met(ways))

    def test_all(self):
        for persons in (TWELVE, TWELVE_STAR):
            want = tuple((name, whom) for name, whom in persons if whom)
            check_told(self, sure, {"book": plain_book(Web(persons))}, want)

    def test_refused(self):
        check_refusals(self, sure, {"book": (ABC, ABC)}, [("book", wrong_books())])
        check_refused(self, sure, {"book": (("a",), ("a",))}, "Untold", None)
        check_refused(self, sure, {"book": (ABC, ABC[::-1])}, "Untold", None)

    def test_samples(self):
        chance = random.Random(94)
        for persons in (ALONE, LEADERS, STAR, SEVERAL):
            book = drawn_book(chance, Web(persons), 30)
            self.assertTrue(set(sure(book)) <= set(persons))


if __name__ == "__main__":
    unittest.main()
