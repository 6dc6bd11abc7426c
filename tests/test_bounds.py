import unittest

from tellrounds import bounds


class BoundsTest(unittest.TestCase):
    def test_values(self):
        expected = {"VERTICES": 16, "DELAY": 1000000000, "COUNTED": 9, "COUNT_TIME": 20, "BATCH": 20}
        for name, value in expected.items():
            with self.subTest(name=name):
                self.assertIs(type(getattr(bounds, name)), int)
                self.assertEqual(getattr(bounds, name), value)


if __name__ == "__main__":
    unittest.main()
