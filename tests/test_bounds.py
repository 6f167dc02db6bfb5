import unittest

from heelrow import bounds


class Bounds(unittest.TestCase):
    def test_most(self):
        self.assertEqual(bounds.MOST, 2000)
        self.assertIs(type(bounds.MOST), int)

    def test_big(self):
        self.assertEqual(bounds.BIG, 1000000000000000000000000000000)
        self.assertIs(type(bounds.BIG), int)

    def test_whole_numbers_are_no_truths(self):
        for thing in (0, 1, 5, 10):
            self.assertIs(bounds.is_whole(thing, 0, 10), True)
        for thing in (-1, 11, 10 ** 6000, True, False, None, "1", [1], (1,), {}, b"1"):
            self.assertIs(bounds.is_whole(thing, 0, 10), False)


if __name__ == "__main__":
    unittest.main()
