import unittest

from heelrow.webs import Web
from tests.helper import (
    ALONE, CHAIN, LEADERS, SAMPLES, SEVERAL, STAR, TWELVE, TWELVE_STAR, UPCHAIN,
    naive_above, refusal, small_webs, wrong_names,
)

ASKED = ("whom", "followers", "above", "below")


class Told(unittest.TestCase):
    def test_several(self):
        web = Web(SEVERAL)
        self.assertEqual(web.names(), ("ann", "bob", "cy", "dee", "eve", "fay", "gus"))
        self.assertEqual(web.leaders(), ("ann", "eve", "gus"))
        self.assertEqual(web.callable(), ("bob", "cy", "dee", "fay"))
        self.assertEqual([web.whom(name) for name in web.names()], [None, "ann", "bob", "ann", None, "eve", None])
        self.assertEqual(web.followers("ann"), ("bob", "dee"))
        self.assertEqual(web.followers("bob"), ("cy",))
        self.assertEqual(web.followers("gus"), ())
        self.assertEqual(web.above("cy"), ("bob", "ann"))
        self.assertEqual(web.above("eve"), ())
        self.assertEqual(web.below("ann"), ("bob", "cy", "dee"))
        self.assertEqual(web.below("cy"), ())
        self.assertEqual(web.high(), 2)

    def test_chains(self):
        self.assertEqual(Web(CHAIN).above("d"), ("c", "b", "a"))
        self.assertEqual(Web(CHAIN).below("b"), ("c", "d"))
        self.assertEqual(Web(UPCHAIN).above("a"), ("b", "c", "d"))
        self.assertEqual(Web(UPCHAIN).below("d"), ("a", "b", "c"))
        self.assertEqual(Web(UPCHAIN).leaders(), ("d",))
        self.assertEqual(Web(CHAIN).high(), 3)
        self.assertEqual(Web(UPCHAIN).high(), 3)

    def test_stars(self):
        self.assertEqual(Web(STAR).followers("mid"), ("a", "b", "z"))
        self.assertEqual(Web(STAR).below("mid"), ("a", "b", "z"))
        self.assertEqual(Web(STAR).high(), 1)
        self.assertEqual(Web(STAR).callable(), ("a", "b", "z"))
        self.assertEqual(len(Web(TWELVE_STAR).followers("f")), 11)

    def test_edges(self):
        alone = Web(ALONE)
        self.assertEqual(alone.names(), ("a",))
        self.assertEqual(alone.leaders(), ("a",))
        self.assertEqual(alone.callable(), ())
        self.assertIsNone(alone.whom("a"))
        self.assertEqual(alone.followers("a"), ())
        self.assertEqual(alone.above("a"), ())
        self.assertEqual(alone.below("a"), ())
        self.assertEqual(alone.high(), 0)
        self.assertEqual(Web(LEADERS).high(), 0)
        self.assertEqual(Web(LEADERS).callable(), ())
        self.assertEqual(Web(TWELVE).high(), 11)
        self.assertEqual(Web(TWELVE).above("l"), tuple("kjihgfedcba"))
        self.assertEqual(Web(TWELVE).below("a"), tuple("bcdefghijkl"))

    def test_all_against_the_persons(self):
        for persons in SAMPLES + tuple(small_webs("abcd")):
            web = Web(persons)
            names = tuple(name for name, whom in persons)
            above = {name: naive_above(persons, name) for name in names}
            self.assertEqual(web.names(), names)
            self.assertEqual(web.leaders(), tuple(name for name, whom in persons if whom is None))
            self.assertEqual(web.callable(), tuple(name for name, whom in persons if whom is not None))
            self.assertEqual(web.high(), max(len(above[name]) for name in names))
            for name, whom in persons:
                self.assertEqual(web.whom(name), whom)
                self.assertEqual(web.above(name), above[name])
                self.assertEqual(web.below(name), tuple(other for other in names if name in above[other]))
                self.assertEqual(web.followers(name), tuple(other for other, led in persons if led == name))

    def test_kinds_of_values(self):
        for persons in SAMPLES:
            web = Web(persons)
            self.assertIs(type(web.high()), int)
            for told in (web.names(), web.leaders(), web.callable()):
                self.assertIs(type(told), tuple)
            for name in web.names():
                for told in (web.followers(name), web.above(name), web.below(name)):
                    self.assertIs(type(told), tuple)

    def test_by_their_names(self):
        web = Web(SEVERAL)
        self.assertEqual(web.whom(name="cy"), "bob")
        self.assertEqual(web.followers(name="ann"), ("bob", "dee"))
        self.assertEqual(web.above(name="cy"), ("bob", "ann"))
        self.assertEqual(web.below(name="ann"), ("bob", "cy", "dee"))


class Refused(unittest.TestCase):
    def test_no_name_of_the_web(self):
        for persons in SAMPLES:
            web = Web(persons)
            for asked in ASKED:
                for thing in wrong_names() + [None, "zz", "nobody"]:
                    told = refusal(self, "NoName", lambda: getattr(web, asked)(thing))
                    self.assertIs(told.name, thing)
                    self.assertEqual(web.persons, persons)


if __name__ == "__main__":
    unittest.main()
