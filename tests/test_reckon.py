import math
import random
import unittest

from hangrings.reckon import common_divisor, common_multiple, reduced, whole_root


class ReckonTest(unittest.TestCase):
    def test_common_divisor_and_multiple(self):
        chance = random.Random(8)
        for number in range(200):
            row = [chance.randint(-90, 90) for place in range(chance.randint(1, 4))]
            self.assertEqual(common_divisor(row), math.gcd(*row))
            above = [abs(entry) + 1 for entry in row]
            self.assertEqual(common_multiple(above), math.lcm(*above))

    def test_reduced(self):
        self.assertEqual(reduced((-6, 4)), (-3, 2))
        self.assertEqual(reduced((0, 5)), (0, 1))

    def test_whole_root(self):
        for number in range(2000):
            self.assertEqual(whole_root(number), math.isqrt(number))
        for figures in [15, 16, 30, 31, 300, 3000]:
            root = 10 ** figures - 3
            for near in [-1, 0, 1]:
                self.assertEqual(whole_root(root * root + near), math.isqrt(root * root + near))
            for shift in [50, 51, 52, 53, 64, 1023, 1024]:
                for near in [-1, 0, 1]:
                    self.assertEqual(whole_root(2 ** shift + near), math.isqrt(2 ** shift + near))


if __name__ == "__main__":
    unittest.main()
