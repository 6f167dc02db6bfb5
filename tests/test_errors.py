import unittest

from heelrow import errors
from tests.helper import BASES, FIELDS, Odd

UNDER = {
    "HeelError": "NoWeb NoText NoRow NoCalls NoPiles NoWish NoCount NoWeights NoTorn NoBook NoNumber NoRest NoDeed NoSay",
    "WhoError": "NoName NoNew Leads Followed Alone Ring Same Barred NoWay Untold NoBack",
    "RoomError": "TooMany Full",
}
PYTHONS = {"HeelError": ValueError, "WhoError": LookupError, "RoomError": ArithmeticError}


def cases():
    return [(base, name) for base in UNDER for name in UNDER[base].split()]


def made(name, thing):
    kind = getattr(errors, name)
    return kind() if FIELDS[name] is None else kind(thing)


class Errors(unittest.TestCase):
    def test_all_are_listed_once(self):
        self.assertEqual(sorted(name for base, name in cases()), sorted(FIELDS))
        self.assertEqual(len(cases()), 27)

    def test_bases(self):
        for name in BASES:
            base = getattr(errors, name)
            self.assertEqual(base.__bases__, (PYTHONS[name],), name)
            self.assertEqual(base.__module__, "heelrow.errors")

    def test_each_stands_under_one_base_alone(self):
        for base, name in cases():
            kind = getattr(errors, name)
            self.assertEqual(kind.__bases__, (getattr(errors, base),), name)
            self.assertEqual(kind.__module__, "heelrow.errors")
            self.assertEqual(kind.__name__, name)
            for other in BASES:
                self.assertEqual(issubclass(kind, getattr(errors, other)), other == base, (name, other))
            for other in PYTHONS:
                self.assertEqual(issubclass(kind, PYTHONS[other]), other == base, (name, other))

    def test_none_stands_under_another(self):
        for base, name in cases():
            for over, other in cases():
                self.assertEqual(issubclass(getattr(errors, name), getattr(errors, other)), name == other)

    def test_field_is_what_was_handed_in(self):
        for thing in (None, 0, 7, True, "a", "", ("a", None), ["a"], {}, 10 ** 6000, Odd()):
            for base, name in cases():
                if FIELDS[name] is not None:
                    self.assertIs(getattr(made(name, thing), FIELDS[name]), thing, name)

    def test_field_by_its_name(self):
        for base, name in cases():
            if FIELDS[name] is not None:
                told = getattr(errors, name)(**{FIELDS[name]: 5})
                self.assertEqual(getattr(told, FIELDS[name]), 5)

    def test_message_can_be_read(self):
        for thing in (None, "a", 10 ** 6000, Odd()):
            for base, name in cases():
                self.assertIsInstance(str(made(name, thing)), str)

    def test_caught_by_its_class_and_its_base(self):
        for base, name in cases():
            for caught in (name, base):
                with self.assertRaises(getattr(errors, caught)):
                    raise made(name, 3)


if __name__ == "__main__":
    unittest.main()
