import unittest

from heelrow.webs import Web
from tests.helper import (
    ALONE, CHAIN, LEADERS, SAMPLES, SEVERAL, STAR, TWELVE, TWELVE_STAR,
    naive_above, refusal, small_webs, wrong_names,
)


class Checked(unittest.TestCase):
    def field(self, persons, name, field, deed):
        """The field of the refusal, behind which the web is as it was."""
        web = Web(persons)
        told = refusal(self, name, lambda: deed(web))
        self.assertEqual(web.persons, persons)
        self.assertEqual(web, Web(persons))
        self.assertEqual(str(web), str(Web(persons)))
        return getattr(told, field) if field else None


class Joined(Checked):
    def test_told(self):
        web = Web(CHAIN)
        self.assertEqual(web.joined("e", "a").persons, CHAIN + (("e", "a"),))
        self.assertEqual(web.joined("e", None).persons, CHAIN + (("e", None),))
        self.assertEqual(web.joined("aa", "d").persons, CHAIN[:1] + (("aa", "d"),) + CHAIN[1:])
        self.assertEqual(Web((("b", None),)).joined("a", "b").persons, (("a", "b"), ("b", None)))
        self.assertEqual(web.joined(whom="a", name="e").persons, CHAIN + (("e", "a"),))
        self.assertEqual(web.persons, CHAIN)

    def test_all_of_the_samples(self):
        for persons in SAMPLES:
            if len(persons) == 12:
                continue
            web = Web(persons)
            for whom in (None,) + web.names():
                more = web.joined("new", whom)
                self.assertIs(type(more), Web)
                self.assertEqual(more.persons, tuple(sorted(persons + (("new", whom),))))
                self.assertEqual(more.whom("new"), whom)
                self.assertEqual(web.persons, persons)

    def test_up_to_twelve(self):
        web = Web(ALONE)
        for name in "bcdefghijkl":
            web = web.joined(name, "a")
        self.assertEqual(len(web), 12)
        self.assertEqual(self.field(web.persons, "Full", "many", lambda full: full.joined("m", "a")), 12)

    def test_no_new(self):
        for persons in SAMPLES:
            for thing in wrong_names() + [None] + [name for name, whom in persons]:
                for whom in (None, persons[0][0], "nobody", 5, []):
                    self.assertIs(self.field(persons, "NoNew", "name", lambda web: web.joined(thing, whom)), thing)

    def test_no_name_of_whom(self):
        for persons in SAMPLES:
            for thing in wrong_names() + ["nobody", "new"]:
                self.assertIs(self.field(persons, "NoName", "name", lambda web: web.joined("new", thing)), thing)

    def test_full(self):
        for persons in (TWELVE, TWELVE_STAR):
            for whom in (None, "a", "l"):
                self.assertEqual(self.field(persons, "Full", "many", lambda web: web.joined("new", whom)), 12)


class Parted(Checked):
    def test_told(self):
        web = Web(CHAIN)
        self.assertEqual(web.parted("d").persons, CHAIN[:3])
        self.assertEqual(web.parted(name="d").persons, CHAIN[:3])
        self.assertEqual(Web(STAR).parted("a").persons, STAR[1:])
        self.assertEqual(Web(SEVERAL).parted("gus").persons, SEVERAL[:-1])
        self.assertEqual(Web(LEADERS).parted("a").persons, LEADERS[1:])
        self.assertEqual(web.persons, CHAIN)

    def test_all_of_them(self):
        for persons in SAMPLES + tuple(small_webs("abcd")):
            followed = [whom for name, whom in persons]
            for name, whom in persons:
                if name in followed:
                    self.assertIs(self.field(persons, "Followed", "name", lambda web: web.parted(name)), name)
                elif len(persons) > 1:
                    web = Web(persons)
                    less = web.parted(name)
                    self.assertIs(type(less), Web)
                    self.assertEqual(less.persons, tuple(one for one in persons if one[0] != name))
                    self.assertEqual(web.persons, persons)

    def test_alone(self):
        self.field(ALONE, "Alone", None, lambda web: web.parted("a"))
        self.field((("zebra", None),), "Alone", None, lambda web: web.parted("zebra"))

    def test_no_name(self):
        for persons in SAMPLES:
            for thing in wrong_names() + [None, "nobody"]:
                self.assertIs(self.field(persons, "NoName", "name", lambda web: web.parted(thing)), thing)


class Turned(Checked):
    def test_told(self):
        web = Web(CHAIN)
        self.assertEqual(web.turned("d", "a").persons, CHAIN[:3] + (("d", "a"),))
        self.assertEqual(web.turned("b", None).persons, (("a", None), ("b", None), ("c", "b"), ("d", "c")))
        self.assertEqual(web.turned("b", None).turned("a", "d").persons, (("a", "d"), ("b", None), ("c", "b"), ("d", "c")))
        self.assertEqual(web.turned(whom="a", name="d").persons, CHAIN[:3] + (("d", "a"),))
        self.assertEqual(web.turned("a", None), web)
        self.assertEqual(web.turned("b", "a"), web)
        self.assertEqual(web.persons, CHAIN)

    def test_all_of_them(self):
        for persons in SAMPLES + tuple(small_webs("abcd")):
            for name, old in persons:
                for whom in (None,) + tuple(other for other, led in persons):
                    if whom is not None and (whom == name or name in naive_above(persons, whom)):
                        self.assertIs(self.field(persons, "Ring", "name", lambda web: web.turned(name, whom)), whom)
                        continue
                    web = Web(persons)
                    other = web.turned(name, whom)
                    self.assertIs(type(other), Web)
                    self.assertEqual(other.persons, tuple((one, whom if one == name else led) for one, led in persons))
                    self.assertEqual(web.persons, persons)

    def test_no_name(self):
        for persons in SAMPLES:
            first = persons[0][0]
            for thing in wrong_names() + [None, "nobody"]:
                for whom in (None, first, "zz", 5, []):
                    self.assertIs(self.field(persons, "NoName", "name", lambda web: web.turned(thing, whom)), thing)
            for thing in wrong_names() + ["nobody"]:
                self.assertIs(self.field(persons, "NoName", "name", lambda web: web.turned(first, thing)), thing)


if __name__ == "__main__":
    unittest.main()
