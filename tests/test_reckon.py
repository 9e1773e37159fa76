import math
import random
import unittest

from hangrings.reckon import common_divisor, common_multiple, exact_root, inverse, reduced, whole_root


class ReckonTest(unittest.TestCase):
    def test_common_divisor_and_multiple(self):
        chance = random.Random(8)
        for number in range(200):
            row = [chance.randint(-90, 90) for place in range(chance.randint(1, 4))]
            self.assertEqual(common_divisor(row), math.gcd(*row))
            above = [abs(entry) + 1 for entry in row]
            self.assertEqual(common_multiple(above), math.lcm(*above))

    def test_reduced(self):
        self.assertEqual(reduced((-6, 4)), (-3, 2))
        self.assertEqual(reduced((0, 5)), (0, 1))

    def test_whole_root(self):
        for number in range(2000):
            self.assertEqual(whole_root(number), math.isqrt(number))
        for figures in [15, 16, 30, 31, 300, 3000]:
            root = 10 ** figures - 3
            for near in [-1, 0, 1]:
                self.assertEqual(whole_root(root * root + near), math.isqrt(root * root + near))
            for shift in [50, 51, 52, 53, 64, 1023, 1024]:
                for near in [-1, 0, 1]:
                    self.assertEqual(whole_root(2 ** shift + near), math.isqrt(2 ** shift + near))

    def test_exact_root(self):
        squares = {number * number: number for number in range(50)}
        for number in range(2401):
            self.assertEqual(exact_root(number), squares.get(number))

    def test_inverse(self):
        for modulus in range(1, 40):
            for number in range(-40, 80):
                if math.gcd(number, modulus) == 1:
                    told = inverse(number, modulus)
                    self.assertIn(told, range(modulus))
                    self.assertEqual((told * number - 1) % modulus, 0)


if __name__ == "__main__":
    unittest.main()
