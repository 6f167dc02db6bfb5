import random
import re
import unittest

from heelrow.errors import NoWeb
from heelrow.webs import Web
from heelrow.webtexts import read_web
from tests.helper import (
    ALONE, CHAIN, SAMPLES, TWELVE, Odd, check_refused, check_told, drawn_webs, refusal, small_webs, wrong_kinds,
)

LETTERS = "abcdefghijklm"


def plain_row(text):
    """The number that a text is refused with, None where it is a web's: word by word as told."""
    rows = text.split("\n")
    for number, row in enumerate(rows):
        if number == 12 or not re.fullmatch("[a-z]{1,6}( > [a-z]{1,6})?", row):
            return number
        if number > 0 and row.split(" ")[0] <= rows[number - 1].split(" ")[0]:
            return number
    persons = tuple((row.split(" > ") + [None])[:2] for row in rows)
    try:
        Web(tuple(tuple(one) for one in persons))
    except NoWeb as e:
        return e.place
    return None


class Read(unittest.TestCase):
    def test_told(self):
        self.assertEqual(read_web("a"), Web(ALONE))
        self.assertEqual(read_web("a\nb > a\nc > b\nd > c"), Web(CHAIN))
        self.assertEqual(read_web("b > z\nz"), Web((("b", "z"), ("z", None))))
        self.assertEqual(read_web("abcdef"), Web((("abcdef", None),)))

    def test_read_and_shown_again(self):
        for web in drawn_webs(150, 5) + [Web(persons) for persons in SAMPLES + tuple(small_webs("abcd"))]:
            text = str(web)
            check_told(self, read_web, {"text": text}, web)
            self.assertEqual(str(read_web(text)), text)
            self.assertEqual(read_web(text).persons, web.persons)

    def test_one_and_twelve(self):
        self.assertEqual(len(read_web("x")), 1)
        self.assertEqual(len(read_web("\n".join(LETTERS[:12]))), 12)
        self.assertEqual(read_web(str(Web(TWELVE))), Web(TWELVE))


class Refused(unittest.TestCase):
    def check_text(self, text, row):
        check_refused(self, read_web, {"text": text}, "NoText", row)

    def test_what_is_no_text(self):
        for thing in wrong_kinds() + [(), CHAIN, ("a",), Web(ALONE), ["a\nb > a"], b"a", (("a", None),), Odd()]:
            if not isinstance(thing, str):
                self.assertEqual(refusal(self, "NoText", lambda: read_web(thing)).row, 0)
                check_refused(self, read_web, {"text": thing}, "NoText", 0)

    def test_rows_not_so_written(self):
        odd = ["", " ", "A", "a1", "abcdefg", "a ", " a", "a >", "a > ", "> a", " > a", "a>b", "a  > b", "a >  b", "a> b",
               "a >b", "a > b ", " a > b", "a > b > c", "a b", "a -> b", "a > B", "a > abcdefg", "a,b", "a; b", "a: b",
               "a > b c", "a > None", "None", "a\tb", "a > -", "-", "a > > b", ">", " > "]
        for row in odd:
            self.check_text(row, 0)
            self.check_text(row + "\nb", 0)
            self.check_text("aa\n" + row, 1)
            self.check_text("aa\nab\n" + row + "\nzz", 2)

    def test_line_ends_too_many(self):
        self.check_text("\n", 0)
        self.check_text("\na", 0)
        self.check_text("a\n", 1)
        self.check_text("a\n\nb", 1)
        self.check_text("a\nb > a\n", 2)

    def test_names_that_do_not_rise(self):
        self.check_text("b\na", 1)
        self.check_text("a\na", 1)
        self.check_text("a\nb > a\nb > a", 2)
        self.check_text("b > a\na", 1)
        self.check_text("a\nc\nb\n?", 2)
        self.check_text("ab\na", 1)
        self.check_text("a\nb\nb > zz", 2)

    def test_a_thirteenth(self):
        self.check_text("\n".join(LETTERS), 12)
        self.check_text("\n".join(LETTERS) + "\nn\no", 12)
        self.check_text("\n".join(LETTERS[:12]) + "\n", 12)
        self.check_text("\n".join(LETTERS[:12]) + "\n???", 12)
        self.check_text("\n".join(LETTERS[:5] + "!" + LETTERS[6:]), 5)
        self.check_text("\n".join(LETTERS).replace("b", "b > no"), 12)
        self.check_text("\n".join(LETTERS).replace("d", "a"), 3)

    def test_as_no_web(self):
        self.check_text("a > b", 0)
        self.check_text("a\nb > c\nc > no", 2)
        self.check_text("a > no\nb > no", 0)
        self.check_text("a > a", 0)
        self.check_text("a\nb > b", 1)
        self.check_text("a > b\nb > a", 0)
        self.check_text("a\nb > d\nc > b\nd > c", 1)
        # Who isn't there comes ahead of a ring, what isn't so written ahead of both.
        self.check_text("a > b\nb > a\nc > no", 2)
        self.check_text("a > b\nb > a\nc > no\nx y", 3)

    def test_drawn_changes(self):
        chance = random.Random(151)
        refused = 0
        for web in drawn_webs(152, 12):
            text = str(web)
            for k in range(12):
                at = chance.randrange(len(text) + 1)
                cut = chance.randrange(3)
                odd = text[:at] + chance.choice(("", "a", "z", " ", "\n", ">", " > ", "B", "\nzz > a\n")) + text[at + cut:]
                want = plain_row(odd)
                if want is None:
                    self.assertEqual(str(read_web(odd)), odd)
                else:
                    self.check_text(odd, want)
                    refused += 1
        self.assertGreater(refused, 500)

    def test_no_texts_of_any_length(self):
        self.check_text("a" * 4000, 0)
        self.check_text("\n" * 4000, 0)
        self.check_text("a\n" * 2000, 1)


if __name__ == "__main__":
    unittest.main()
