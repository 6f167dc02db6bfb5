import unittest

from heelrow import bounds


class Bounds(unittest.TestCase):
    def test_most(self):
        self.assertEqual(bounds.MOST, 2000)
        self.assertIs(type(bounds.MOST), int)

    def test_big(self):
        self.assertEqual(bounds.BIG, 1000000000000000000000000000000)
        self.assertIs(type(bounds.BIG), int)


if __name__ == "__main__":
    unittest.main()
