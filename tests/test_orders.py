"""Promise 2: giving one at a time, in whatever order, comes to what the program tells."""

import unittest

from spreadrow.giving import all_gave, gave
from spreadrow.spreading import left, spread
from tests.helper import ORDERS, odd_heaps, places_of, rest_by_hand, small_heaps


class Orders(unittest.TestCase):
    def same(self, heaps, order):
        rest, given = rest_by_hand(heaps, order)
        about = range(min(rest, default=0) - 3, max(rest, default=0) + 4)
        self.assertEqual(places_of(spread(heaps).stretches), sorted(rest), heaps)
        for place in about:
            self.assertEqual(left(heaps, place), rest.get(place, 0), (heaps, place))
            self.assertEqual(gave(heaps, place), given.get(place, 0), (heaps, place))
        self.assertEqual(all_gave(heaps), sum(given.values()), heaps)

    def test_small_heaps_from_the_left_and_from_the_right(self):
        for heaps in small_heaps():
            self.same(heaps, "leftmost")
            self.same(heaps, "rightmost")

    def test_every_order(self):
        for order in ORDERS:
            for seed in range(12):
                self.same(odd_heaps(seed, 8, 6, 5), order)
                self.same(odd_heaps(seed, 14, 20, 4), order)

    def test_one_heap(self):
        for count in range(24):
            for order in ORDERS:
                self.same([(-2, count)], order)

    def test_two_heaps(self):
        for off in range(12):
            for one in (1, 2, 4, 7):
                for other in (1, 3, 6):
                    self.same([(off, other), (0, one)], "leftmost")
                    self.same([(0, one), (-off, other)], "by turns")

    def test_one_alone_does_not_give(self):
        self.assertEqual(gave([(0, 1)], 0), 0)
        self.assertEqual(gave([(0, 1), (1, 1), (2, 1)], 1), 0)
        self.assertEqual(all_gave([(place, 1) for place in range(50)]), 0)

    def test_two_give(self):
        self.assertEqual(gave([(0, 2)], 0), 1)
        self.assertEqual([left([(0, 2)], place) for place in (-2, -1, 0, 1, 2)], [0, 1, 0, 1, 0])


if __name__ == "__main__":
    unittest.main()
