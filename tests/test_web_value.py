import inspect
import unittest

from heelrow import webs
from heelrow.webs import Web
from tests.helper import ALONE, CHAIN, LEADERS, SAMPLES, SEVERAL, STAR, TWELVE, small_webs, wrong_names

LISTED = (
    "__init__", "__eq__", "__len__", "__str__", "__repr__", "names", "whom", "leaders", "callable", "followers",
    "above", "below", "high", "joined", "parted", "turned",
)


class Alike(unittest.TestCase):
    def test_just_where_persons_are(self):
        all_of_them = SAMPLES + tuple(small_webs("abc"))
        for one in all_of_them:
            for other in all_of_them:
                # A fresh tuple, so that nothing is alike by being the very same thing.
                told = Web(tuple(list(other)))
                self.assertIs(Web(one) == told, one == other)
                self.assertIs(Web(one) != told, one != other)

    def test_unlike_by_one_whom_alone(self):
        self.assertFalse(Web((("a", None), ("b", None))) == Web((("a", None), ("b", "a"))))
        self.assertFalse(Web((("a", None),)) == Web((("b", None),)))

    def test_other_things_never(self):
        for persons in SAMPLES:
            web = Web(persons)
            things = wrong_names() + [None, persons, list(persons), dict(persons), str(web), repr(web), len(web)]
            for thing in things:
                if isinstance(thing, Web) and persons == ALONE:
                    continue
                self.assertIs(web == thing, False)
                self.assertIs(thing == web, False)
                self.assertIs(web != thing, True)
                self.assertIs(thing != web, True)

    def test_in_lists_and_tuples(self):
        one, other = Web(CHAIN), Web(STAR)
        self.assertTrue([one, other] == [Web(CHAIN), Web(STAR)])
        self.assertTrue((one, (other,)) == (Web(CHAIN), (Web(STAR),)))
        self.assertFalse([one] == [other])
        self.assertFalse((one,) == (CHAIN,))
        self.assertIn(Web(CHAIN), [other, one])
        self.assertNotIn(Web(ALONE), (other, one, ALONE, "a"))
        self.assertEqual([other, one].index(Web(CHAIN)), 1)


class Shown(unittest.TestCase):
    def test_text(self):
        self.assertEqual(str(Web(ALONE)), "a")
        self.assertEqual(str(Web(CHAIN)), "a\nb > a\nc > b\nd > c")
        self.assertEqual(str(Web(STAR)), "a > mid\nb > mid\nmid\nz > mid")
        self.assertEqual(str(Web(LEADERS)), "a\naa\nab\nabcdef")
        self.assertEqual(str(Web(SEVERAL)), "ann\nbob > ann\ncy > bob\ndee > ann\neve\nfay > eve\ngus")

    def test_text_has_a_row_for_each(self):
        for persons in SAMPLES + tuple(small_webs("abcd")):
            rows = str(Web(persons)).split("\n")
            self.assertEqual(rows, [name if whom is None else name + " > " + whom for name, whom in persons])

    def test_repr(self):
        self.assertEqual(repr(Web(ALONE)), "Web(1)")
        self.assertEqual(repr(Web(CHAIN)), "Web(4)")
        self.assertEqual(repr(Web(CHAIN[:1] + (("b", "a"), ("c", "a"), ("d", "a"), ("e", None)))), "Web(5)")
        self.assertEqual(repr(Web(TWELVE)), "Web(12)")

    def test_len_and_truth(self):
        for persons in SAMPLES:
            self.assertEqual(len(Web(persons)), len(persons))
            self.assertIs(bool(Web(persons)), True)


class Interface(unittest.TestCase):
    def test_listed_methods_stand_in_the_class_itself(self):
        for name in LISTED:
            self.assertIn(name, vars(Web))
            self.assertTrue(inspect.isfunction(vars(Web)[name]), name)

    def test_defined_in_their_file(self):
        self.assertEqual(Web.__module__, "heelrow.webs")
        self.assertEqual(webs.is_name.__module__, "heelrow.webs")

    def test_persons_is_set_when_made(self):
        self.assertIn("persons", vars(Web(CHAIN)))


if __name__ == "__main__":
    unittest.main()
