"""Promises 5 and 6: how often each place gives, and how often all together."""

import unittest

from spreadrow.giving import all_gave, gave
from spreadrow.spreading import left, spread
from tests.helper import odd_heaps, own_heaps, rest_by_hand, small_heaps


def tell_places(heaps):
    """Places of heaps, ends of stretches, what is beside them, and far ones."""
    far = 10 ** 80
    near = [place for place, _ in heaps]
    for first, last in spread(heaps).stretches:
        near.extend((first, last, (first + last) // 2))
    found = [0, far, -far]
    for place in near:
        found.extend((place - 1, place, place + 1))
    return found


class Gave(unittest.TestCase):
    def check_balance(self, heaps):
        for place in tell_places(heaps):
            own = gave(heaps, place)
            self.assertGreaterEqual(own, 0)
            beside = gave(heaps, place - 1) + gave(heaps, place + 1)
            self.assertEqual(left(heaps, place), own_heaps(heaps, place) - 2 * own + beside)

    def test_told_by_hand(self):
        self.assertEqual([gave([(0, 3)], place) for place in range(-2, 3)], [0, 0, 1, 0, 0])
        self.assertEqual([gave([(0, 4)], place) for place in range(-3, 4)], [0, 0, 1, 3, 1, 0, 0])
        self.assertEqual([gave([(0, 5)], place) for place in range(-3, 4)], [0, 0, 1, 3, 1, 0, 0])
        self.assertEqual([gave([(0, 2), (1, 1)], place) for place in range(-2, 4)], [0, 0, 1, 1, 0, 0])

    def test_balance(self):
        for heaps in small_heaps()[::5]:
            self.check_balance(heaps)
        for seed in range(15):
            self.check_balance(odd_heaps(seed, 12, 40, 9))
            self.check_balance([(place ** 9, count ** 11) for place, count in odd_heaps(seed, 12, 40, 90)])

    def test_ends_and_far_out_do_not_give(self):
        for heaps in ([(0, 9)], [(0, 8), (3, 5)], [(10 ** 30, 10 ** 40)]):
            stretches = spread(heaps).stretches
            first, last = stretches[0][0], stretches[-1][1]
            for place in (first, first - 1, last, last + 1, first - 10 ** 90, last + 10 ** 90):
                self.assertEqual(gave(heaps, place), 0)
            self.assertEqual(gave(heaps, first + 1), 1)
            self.assertEqual(gave(heaps, last - 1), 1)

    def test_great_counts_are_told_at_once(self):
        great = 10 ** 60
        heaps = [(0, 2 * great + 1), (10 * great, 2), (-10 * great, 4)]
        for off in (0, 1, 7, 10 ** 30, great - 1, great, great + 1):
            expected = max(great - off, 0) * (great - off + 1) // 2
            self.assertEqual(gave(heaps, off), expected)
            self.assertEqual(gave(heaps, -off), expected)
        self.assertEqual(gave(heaps, 10 * great), 1)
        self.assertEqual(gave(heaps, 10 * great + 1), 0)
        self.assertEqual([gave(heaps, -10 * great + off) for off in (-2, -1, 0, 1, 2)], [0, 1, 3, 1, 0])

    def test_two_great_heaps_together(self):
        # All are an even number around 0: they rest from -2 * great - 1 to 2 * great + 1, without 0.
        great = 10 ** 41
        heaps = [(-great, 2 * great + 1), (great, 2 * great + 1)]
        alone = great * (great + 1) // 2
        self.assertEqual(gave(heaps, 0), 2 * great + 1)
        self.assertEqual(gave(heaps, great), alone + great + 1)
        self.assertEqual(gave(heaps, -great), alone + great + 1)
        self.assertEqual(gave(heaps, 2 * great), 1)
        self.assertEqual(gave(heaps, 2 * great + 1), 0)


class AllGave(unittest.TestCase):
    def test_told_by_hand(self):
        for count, expected in enumerate((0, 0, 1, 1, 5, 5, 14, 14, 30)):
            self.assertEqual(all_gave([(-3, count)]), expected)
        self.assertEqual(all_gave([(0, 2), (1, 1)]), 2)
        self.assertEqual(all_gave([]), 0)

    def test_all_places_together(self):
        for heaps in small_heaps()[::3]:
            about = range(-60, 60)
            self.assertEqual(all_gave(heaps), sum(gave(heaps, place) for place in about))

    def test_squares_of_places(self):
        for seed in range(30):
            heaps = odd_heaps(seed, 10, 200, 30)
            before = sum(count * place ** 2 for place, count in heaps)
            now = sum(place ** 2 for place in range(-600, 600) if left(heaps, place))
            self.assertEqual(before + 2 * all_gave(heaps), now)

    def test_each_giving_makes_the_squares_greater_by_two(self):
        for seed in range(20):
            heaps = odd_heaps(seed, 10, 9, 6)
            rest, given = rest_by_hand(heaps, "by turns")
            before = sum(count * place ** 2 for place, count in heaps)
            self.assertEqual(sum(place ** 2 for place in rest), before + 2 * sum(given.values()))
            self.assertEqual(all_gave(heaps), sum(given.values()))

    def test_great_counts_are_told_at_once(self):
        great = 10 ** 60
        one = great * (great + 1) * (2 * great + 1) // 6
        self.assertEqual(all_gave([(0, 2 * great + 1)]), one)
        self.assertEqual(all_gave([(0, 2 * great)]), one)
        self.assertEqual(all_gave([(-great ** 2, 2 * great), (great ** 2, 2 * great + 1), (5, 2)]), 2 * one + 1)


if __name__ == "__main__":
    unittest.main()
