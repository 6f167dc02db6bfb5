import string
import unittest

from heelrow.webs import is_name
from tests.helper import wrong_names


class Names(unittest.TestCase):
    def test_every_small_letter(self):
        for letter in string.ascii_lowercase:
            self.assertIs(is_name(letter), True)
            self.assertIs(is_name("ab" + letter), True)

    def test_no_other_sign(self):
        for code in [10] + list(range(32, 127)):
            sign = chr(code)
            for text in (sign, "a" + sign, sign + "a", "ab" + sign + "cd"):
                self.assertIs(is_name(text), sign in string.ascii_lowercase, text)

    def test_lengths(self):
        for many in range(0, 20):
            self.assertIs(is_name("a" * many), 1 <= many <= 6, many)
        self.assertIs(is_name("abcdef"), True)
        self.assertIs(is_name("abcdefg"), False)
        self.assertIs(is_name(""), False)

    def test_things_of_any_kind(self):
        for thing in wrong_names() + [None]:
            self.assertIs(is_name(thing), False)

    def test_by_its_name(self):
        self.assertIs(is_name(thing="ann"), True)
        self.assertIs(is_name(thing=["ann"]), False)


if __name__ == "__main__":
    unittest.main()
