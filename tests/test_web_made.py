import unittest

from heelrow.webs import Web
from tests.helper import (
    ALONE, CHAIN, SAMPLES, TWELVE, Odd, has_ring, refusal, small_webs, wrong_names,
)


class Made(unittest.TestCase):
    def test_persons_are_kept(self):
        for persons in SAMPLES:
            self.assertEqual(Web(persons).persons, persons)
            self.assertIs(type(Web(persons).persons), tuple)

    def test_by_its_name(self):
        self.assertEqual(Web(persons=CHAIN).persons, CHAIN)

    def test_one_to_twelve(self):
        for many in range(1, 13):
            self.assertEqual(len(Web(TWELVE[:many])), many)

    def test_what_is_told_may_be_handed_in(self):
        for persons in SAMPLES:
            web = Web(persons)
            self.assertEqual(Web(web.persons), web)


class Refused(unittest.TestCase):
    def place(self, persons):
        told = refusal(self, "NoWeb", lambda: Web(persons))
        if told.place is not None:
            self.assertIs(type(told.place), int)
        return told.place

    def test_no_tuple(self):
        for thing in wrong_names() + [None, list(CHAIN), dict(CHAIN), "a > b", Web(CHAIN), Odd()]:
            if not isinstance(thing, tuple):
                self.assertIsNone(self.place(thing))

    def test_none_and_more_than_twelve(self):
        self.assertIsNone(self.place(()))
        thirteen = TWELVE + (("m", "l"),)
        self.assertIsNone(self.place(thirteen))
        self.assertIsNone(self.place(TWELVE * 20))

    def test_more_than_twelve_whatever_they_are(self):
        for thing in (None, 1, ("a", None), ("A", None), [], Odd()):
            self.assertIsNone(self.place((thing,) * 13))
            self.assertEqual(self.place((thing,) * 12), 1 if thing == ("a", None) else 0)

    def test_no_person_at_each_place(self):
        wrong = [
            None, 1, True, "a", "ab", "", [], ["b", None], ("b",), ("b", None, None), ("b", "a", "a"), (), {"b": None},
            (("b", None),), Odd(), 10 ** 6000, ("b", ("a",)), ("b", ["a"]), ("b", False), ("b", True), ("b", 0), ("b", Odd()),
        ]
        for thing in wrong:
            self.assertEqual(self.place((thing,)), 0)
            self.assertEqual(self.place((("a", None), thing)), 1)
            self.assertEqual(self.place((("a", None), thing, ("c", None))), 1)
            self.assertEqual(self.place(CHAIN + (thing,)), 4)
            self.assertEqual(self.place(TWELVE[:11] + (thing,)), 11)

    def test_no_name_and_no_whom(self):
        for thing in wrong_names():
            self.assertEqual(self.place(((thing, None),)), 0)
            self.assertEqual(self.place((("a", thing),)), 0)
            self.assertEqual(self.place((("a", None), (thing, "a"))), 1)
            self.assertEqual(self.place((("a", None), ("b", thing))), 1)
        self.assertEqual(self.place(((None, None),)), 0)

    def test_names_that_do_not_rise(self):
        self.assertEqual(self.place((("a", None), ("a", None))), 1)
        self.assertEqual(self.place((("b", None), ("a", None))), 1)
        self.assertEqual(self.place((("a", None), ("c", None), ("b", None), ("d", None))), 2)
        self.assertEqual(self.place((("ab", None), ("a", None))), 1)
        self.assertEqual(self.place((("b", None), ("aaaaaa", None))), 1)
        self.assertEqual(self.place(TWELVE[:11] + (("k", None),)), 11)
        Web((("a", None), ("aa", None), ("ab", None), ("b", None)))

    def test_whom_is_not_there(self):
        self.assertEqual(self.place((("a", "b"),)), 0)
        self.assertEqual(self.place((("a", None), ("b", "c"))), 1)
        self.assertEqual(self.place((("a", None), ("b", "x"), ("c", "y"))), 1)
        self.assertEqual(self.place((("a", None), ("b", "aa"), ("c", "b"))), 1)
        self.assertEqual(self.place(TWELVE[:11] + (("l", "m"),)), 11)

    def test_who_never_comes_to_one_who_leads(self):
        self.assertEqual(self.place((("a", "a"),)), 0)
        self.assertEqual(self.place((("a", None), ("b", "b"))), 1)
        self.assertEqual(self.place((("a", "b"), ("b", "a"))), 0)
        self.assertEqual(self.place((("a", None), ("b", "c"), ("c", "d"), ("d", "b"))), 1)
        self.assertEqual(self.place((("a", None), ("b", "c"), ("c", "d"), ("d", "c"))), 1)
        self.assertEqual(self.place((("a", None), ("b", "a"), ("c", "d"), ("d", "c"))), 2)
        ring = (("a", "l"),) + TWELVE[1:]
        self.assertEqual(self.place(ring), 0)

    def test_every_small_table(self):
        names = ("a", "b", "c")
        for first in (None,) + names:
            for second in (None,) + names:
                for third in (None,) + names:
                    persons = (("a", first), ("b", second), ("c", third))
                    if has_ring(persons):
                        stuck = [k for k in range(3) if self.stuck(persons, names[k])]
                        self.assertEqual(self.place(persons), stuck[0])
                    else:
                        self.assertEqual(Web(persons).persons, persons)

    def stuck(self, persons, name):
        at = name
        for step in range(9):
            at = dict(persons)[at] if at is not None else None
        return at is not None

    def test_order_form_ahead_of_whom_ahead_of_ring(self):
        # The last is ill formed, the first follows nobody there, the second themselves.
        self.assertEqual(self.place((("a", "x"), ("b", "b"), ["c", None])), 2)
        self.assertEqual(self.place((("a", "x"), ("c", "c"), ("b", None))), 2)
        self.assertEqual(self.place((("a", "a"), ("b", "x"))), 1)
        self.assertEqual(self.place((("a", "b"), ("b", "a"), ("c", "x"))), 2)
        self.assertEqual(self.place((("b", None), ("a", None), None)), 1)
        self.assertEqual(self.place((("b", None), None, ("a", None))), 1)

    def test_handed_in_stays(self):
        inner = ["a", None]
        handed = (inner, ("b", None))
        self.assertEqual(self.place(handed), 0)
        self.assertEqual(handed, (["a", None], ("b", None)))

    def test_every_web_of_four_can_be_made(self):
        webs = small_webs("abcd")
        self.assertEqual(len(webs), 125)
        for persons in webs:
            Web(persons)
        self.assertEqual(Web(ALONE).persons, ALONE)


if __name__ == "__main__":
    unittest.main()
