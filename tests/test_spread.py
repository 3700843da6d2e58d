"""Promises 3 and 4: the stretches that are left, the class Spread, and what giving keeps."""

import unittest

from spreadrow.answers import Spread
from spreadrow.spreading import left, spread
from tests.helper import odd_heaps, places_of, small_heaps


def how_many(stretches):
    return sum(last - first + 1 for first, last in stretches)


def sum_of_places(stretches):
    return sum((first + last) * (last - first + 1) // 2 for first, last in stretches)


def as_heaps(stretches):
    return [(place, 1) for place in places_of(stretches)]


class Stretches(unittest.TestCase):
    def test_told_by_hand(self):
        cases = (
            ([(0, 1)], [(0, 0)]),
            ([(0, 2)], [(-1, -1), (1, 1)]),
            ([(0, 3)], [(-1, 1)]),
            ([(0, 4)], [(-2, -1), (1, 2)]),
            ([(0, 1), (1, 1)], [(0, 1)]),
            ([(0, 2), (1, 1)], [(-1, 0), (2, 2)]),
            ([(0, 1), (1, 1), (2, 1), (1, 1)], [(-1, 0), (2, 3)]),
            ([(0, 2), (3, 1)], [(-1, -1), (1, 1), (3, 3)]),
            # Two that have not touched rest side by side.
            ([(0, 3), (3, 3)], [(-1, 4)]),
            ([(0, 3), (4, 3)], [(-1, 1), (3, 5)]),
            # One put where another has its place without one.
            ([(0, 2), (0, 1)], [(-1, 1)]),
            ([(-1, 1), (1, 1), (0, 1)], [(-1, 1)]),
        )
        for heaps, stretches in cases:
            self.assertEqual(spread(heaps).stretches, stretches, heaps)

    def test_in_their_turn_with_a_place_between(self):
        more = [odd_heaps(seed, 40, 60, 4) for seed in range(40)]
        for heaps in small_heaps() + more:
            stretches = spread(heaps).stretches
            for first, last in stretches:
                self.assertLessEqual(first, last)
            for (_, last), (first, _) in zip(stretches, stretches[1:]):
                self.assertLess(last + 1, first)

    def test_left_at_the_ends_beside_and_within(self):
        for seed in range(40):
            heaps = odd_heaps(seed, 30, 80, 7)
            stretches = spread(heaps).stretches
            for first, last in stretches:
                for place in (first, last, (first + last) // 2):
                    self.assertEqual(left(heaps, place), 1)
                for place in (first - 1, last + 1):
                    self.assertEqual(left(heaps, place), 0)
            own = set(places_of(stretches))
            for place in range(-200, 200):
                self.assertEqual(left(heaps, place), int(place in own))

    def test_great_counts_are_told_at_once(self):
        great = 10 ** 50
        heaps = [(great, 2 * great), (0, 4), (-great, 2 * great + 1)]
        # All 4 * great + 5 come together, so they rest on one place more, less one of these;
        # from -2 * great - 3 on the sum of all is -2 * great - 3, and theirs is -great.
        stretches = spread(heaps).stretches
        self.assertEqual(how_many(stretches), 4 * great + 5)
        self.assertEqual(sum_of_places(stretches), -great)
        self.assertEqual(stretches, [(-2 * great - 3, -great - 4), (-great - 2, 2 * great + 2)])
        for first, last in stretches:
            self.assertEqual([left(heaps, place) for place in (first - 1, first, last, last + 1)], [0, 1, 1, 0])

    def test_great_heaps_that_just_touch_and_just_do_not(self):
        great = 10 ** 45
        for between, stretches in (
            (2 * great + 2, [(-great, great), (great + 2, 3 * great + 2)]),
            (2 * great + 1, [(-great, 3 * great + 1)]),
            (2 * great, [(-great - 1, great - 1), (great + 1, 3 * great + 1)]),
        ):
            heaps = [(0, 2 * great + 1), (between, 2 * great + 1)]
            self.assertEqual(spread(heaps).stretches, stretches)


class ByHand(unittest.TestCase):
    def test_field(self):
        self.assertEqual(Spread([]).stretches, [])
        self.assertEqual(Spread([(0, 2), (5, 3)]).stretches, [(0, 2), (5, 3)])
        self.assertEqual(Spread(stretches=[(1, 1)]).stretches, [(1, 1)])

    def test_the_list_is_copied(self):
        stretches = [(-1, 1)]
        answer = Spread(stretches)
        self.assertIsNot(answer.stretches, stretches)
        stretches.append((5, 5))
        self.assertEqual(answer.stretches, [(-1, 1)])
        self.assertTrue(answer.shows([(0, 3)]))
        answer.stretches.clear()
        self.assertEqual(stretches, [(-1, 1), (5, 5)])

    def test_right_ones(self):
        for heaps in small_heaps():
            self.assertIs(Spread(spread(heaps).stretches).shows(heaps), True)
            self.assertIs(Spread(spread(heaps).stretches).shows(heaps[::-1]), True)
        self.assertIs(Spread([]).shows([]), True)
        self.assertIs(Spread([]).shows([(3, 0)]), True)
        self.assertIs(Spread([(-10 ** 60, 10 ** 60)]).shows([(0, 2 * 10 ** 60 + 1)]), True)

    def test_ones_a_little_off(self):
        heaps = [(0, 6), (20, 4)]
        right = [(-3, -1), (1, 3), (18, 19), (21, 22)]
        self.assertIs(Spread(right).shows(heaps), True)
        for k, (first, last) in enumerate(right):
            ahead, behind = right[:k], right[k + 1:]
            others = [
                [(first - 1, last)], [(first + 1, last)], [(first, last - 1)], [(first, last + 1)],
                [(first - 1, last - 1)], [(first + 1, last + 1)], [(last, first)], [],
                [(first, last), (first, last)], [(first, first), (first + 1, last)],
                [(first, last), (last, last)], [(first, last), (last + 1, last)], [(-first, -last)],
            ]
            for other in others:
                self.assertIs(Spread(ahead + other + behind).shows(heaps), False, other)
        for k in range(3):
            joined = right[:k] + [(right[k][0], right[k + 1][1])] + right[k + 2:]
            self.assertIs(Spread(joined).shows(heaps), False)
            turned = right[:k] + [right[k + 1], right[k]] + right[k + 2:]
            self.assertIs(Spread(turned).shows(heaps), False)
        for other in ([], right[::-1], right + right, [(4, 4)] + right, right + [(40, 40)], right + [(40, 39)]):
            self.assertIs(Spread(other).shows(heaps), False)

    def test_stretches_without_a_place_between(self):
        heaps = [(0, 3), (3, 3)]
        self.assertIs(Spread([(-1, 4)]).shows(heaps), True)
        self.assertIs(Spread([(-1, 1), (2, 4)]).shows(heaps), False)

    def test_of_none(self):
        for other in ([(0, 0)], [(0, -1)], [(1, 0)]):
            self.assertIs(Spread(other).shows([]), False)
            self.assertIs(Spread(other).shows([(0, 0)]), False)
        self.assertIs(Spread([]).shows([(0, 1)]), False)

    def test_great_ones_a_little_off(self):
        great = 10 ** 60
        heaps = [(1, 2 * great)]
        self.assertIs(Spread([(1 - great, 0), (2, 1 + great)]).shows(heaps), True)
        self.assertIs(Spread([(1 - great, 0), (2, great)]).shows(heaps), False)
        self.assertIs(Spread([(-great, 0), (2, 1 + great)]).shows(heaps), False)
        self.assertIs(Spread([(1 - great, 1 + great)]).shows(heaps), False)

    def test_by_the_field_as_it_stands_then(self):
        answer = spread([(0, 3)])
        self.assertTrue(answer.shows([(0, 3)]))
        answer.stretches.append((5, 5))
        self.assertFalse(answer.shows([(0, 3)]))
        self.assertTrue(answer.shows([(0, 3), (5, 1)]))
        answer.stretches = [(-1, -1), (1, 1)]
        self.assertTrue(answer.shows([(0, 2)]))
        self.assertFalse(answer.shows([(0, 3)]))

    def test_asking_changes_nothing(self):
        answer = Spread([(5, 3), (0, 0)])
        heaps = [(4, 2), (0, 3)]
        answer.shows(heaps)
        self.assertEqual(answer.stretches, [(5, 3), (0, 0)])
        self.assertEqual(heaps, [(4, 2), (0, 3)])


class Kept(unittest.TestCase):
    def check_kept(self, heaps):
        stretches = spread(heaps).stretches
        self.assertEqual(how_many(stretches), sum(count for _, count in heaps))
        self.assertEqual(sum_of_places(stretches), sum(place * count for place, count in heaps))

    def test_as_many_and_the_same_sum(self):
        for heaps in small_heaps():
            self.check_kept(heaps)
        for seed in range(40):
            self.check_kept(odd_heaps(seed, 50, 10 ** 4, 300))
            self.check_kept([(place ** 9, count ** 9) for place, count in odd_heaps(seed, 30, 90, 90)])

    def test_heaps_put_in_when_others_rest(self):
        for seed in range(60):
            heaps = odd_heaps(seed, 24, 30, 9)
            expected = spread(heaps).stretches
            for cut in (0, 1, 12, 23, 24):
                resting = as_heaps(spread(heaps[:cut]).stretches)
                self.assertEqual(spread(resting + heaps[cut:]).stretches, expected)
                self.assertEqual(spread(heaps[cut:] + resting).stretches, expected)

    def test_one_after_another(self):
        for seed in range(10):
            heaps = odd_heaps(seed, 15, 12, 6)
            resting = []
            for heap in heaps:
                resting = as_heaps(spread(resting + [heap]).stretches)
            self.assertEqual(spread(resting).stretches, spread(heaps).stretches)


if __name__ == "__main__":
    unittest.main()
