"""Promise 1: what heaps and numbers are, what is refused, and that nothing is changed or kept."""

import copy
import unittest

from spreadrow import errors
from spreadrow.answers import Spread
from spreadrow.giving import all_gave, gave
from spreadrow.spreading import left, spread
from spreadrow.texts import read, written
from tests.helper import odd_heaps, rest_by_hand, wrong_heaps, wrong_places


def told(heaps, places=range(-12, 13)):
    """All that is told of heaps."""
    return (
        spread(heaps).stretches,
        [left(heaps, place) for place in places],
        [gave(heaps, place) for place in places],
        all_gave(heaps),
    )


class TakenHeaps(unittest.TestCase):
    def test_none(self):
        self.assertEqual(told([]), ([], [0] * 25, [0] * 25, 0))
        for place in (0, -1, 10 ** 60, -10 ** 60):
            self.assertEqual(left([], place), 0)
            self.assertEqual(gave([], place), 0)

    def test_counts_of_0_are_as_none(self):
        self.assertEqual(told([(0, 0), (5, 0), (-10 ** 70, 0)]), told([]))
        self.assertEqual(told([(1, 0), (0, 4), (-1, 0), (0, 0), (2, 0)]), told([(0, 4)]))

    def test_several_pairs_for_one_place_are_together(self):
        self.assertEqual(told([(3, 1), (3, 1)]), told([(3, 2)]))
        self.assertEqual(told([(3, 1), (-1, 4), (3, 6), (-1, 1), (3, 0)]), told([(-1, 5), (3, 7)]))
        self.assertEqual(told([(2, 1)] * 9), told([(2, 9)]))

    def test_pairs_in_any_order(self):
        heaps = [(-6, 3), (-2, 4), (0, 1), (1, 5), (7, 2)]
        expected = told(heaps)
        self.assertEqual(told(heaps[::-1]), expected)
        for turn in range(5):
            self.assertEqual(told(heaps[turn:] + heaps[:turn]), expected)
        self.assertEqual(told([heaps[k] for k in (3, 0, 4, 2, 1)]), expected)

    def test_places_below_0(self):
        self.assertEqual(spread([(-7, 3)]).stretches, [(-8, -6)])
        self.assertEqual(spread([(-7, 2)]).stretches, [(-8, -8), (-6, -6)])
        self.assertEqual(left([(-7, 2)], -8), 1)
        self.assertEqual(left([(-7, 2)], -7), 0)
        self.assertEqual(gave([(-7, 2)], -7), 1)
        self.assertEqual(gave([(-7, 2)], 7), 0)
        self.assertEqual(all_gave([(-7, 2)]), 1)

    def test_all_moves_with_its_places(self):
        heaps = odd_heaps(7, 12, 10, 6)
        for far in (1, -1, 10 ** 39, -10 ** 39, 10 ** 59, -10 ** 60, 3 ** 400, -7 ** 2000):
            moved = [(place + far, count) for place, count in heaps]
            stretches = [(first + far, last + far) for first, last in spread(heaps).stretches]
            expected = (stretches,) + told(heaps)[1:]
            self.assertEqual(told(moved, [place + far for place in range(-12, 13)]), expected)

    def test_numbers_of_many_figures(self):
        for figures in (40, 41, 60, 61, 100, 900, 5000):
            great = 10 ** figures
            for far in (0, great + 1, -great - 1):
                odd = [(far, 2 * great + 1)]
                self.assertTrue(spread(odd).stretches == [(far - great, far + great)])
                self.assertTrue(gave(odd, far) == great * (great + 1) // 2)
                self.assertTrue(all_gave(odd) == great * (great + 1) * (2 * great + 1) // 6)
                even = [(far, 2 * great)]
                parts = [(far - great, far - 1), (far + 1, far + great)]
                self.assertTrue(spread(even).stretches == parts)
                self.assertEqual(left(even, far), 0)
                self.assertEqual(left(even, far + great), 1)
                self.assertEqual(left(even, far + great + 1), 0)

    def test_many_pairs(self):
        heaps = [(place, 1) for place in range(0, 40000, 2)]
        self.assertEqual(spread(heaps).stretches, [(place, place) for place, _ in heaps])
        self.assertEqual(all_gave(heaps), 0)
        self.assertEqual(spread([(0, 1)] * 40001).stretches, [(-20000, 20000)])


class NothingKept(unittest.TestCase):
    def test_what_is_handed_in_is_the_same_behind(self):
        for heaps in ([], [(5, 3), (-1, 0), (5, 1), (2, 9)], odd_heaps(3, 30, 20, 9)):
            before = copy.deepcopy(heaps)
            spread(heaps)
            left(heaps, 1)
            gave(heaps, 1)
            all_gave(heaps)
            written(heaps)
            spread(heaps).shows(heaps)
            self.assertEqual(heaps, before)

    def test_what_is_refused_is_the_same_behind(self):
        heaps = [(5, 3), (1, 2), (0, -1)]
        for call in (spread, all_gave, written):
            self.assertRaises(errors.BadHeaps, call, heaps)
        self.assertEqual(heaps, [(5, 3), (1, 2), (0, -1)])

    def test_changing_what_was_handed_in_changes_no_answer(self):
        heaps = [(0, 3)]
        answer = spread(heaps)
        text = written(heaps)
        heaps.append((50, 3))
        self.assertEqual(answer.stretches, [(-1, 1)])
        self.assertEqual(text, "0:3")
        self.assertEqual(spread(heaps).stretches, [(-1, 1), (49, 51)])
        self.assertFalse(answer.shows(heaps))
        heaps.clear()
        self.assertEqual(spread(heaps).stretches, [])
        self.assertEqual(answer.stretches, [(-1, 1)])

    def test_changing_what_was_told_changes_no_answer(self):
        for heaps, expected in (([], []), ([(0, 3)], [(-1, 1)])):
            first = spread(heaps)
            second = spread(heaps)
            self.assertIsNot(first, second)
            self.assertIsNot(first.stretches, second.stretches)
            first.stretches.append((7, 7))
            self.assertEqual(second.stretches, expected)
            self.assertEqual(spread(heaps).stretches, expected)
            self.assertFalse(first.shows(heaps))
            self.assertTrue(second.shows(heaps))
        for text, expected in (("-", []), ("0:3", [(0, 3)])):
            heaps = read(text)
            heaps.append((7, 7))
            self.assertEqual(read(text), expected)

    def test_kinds_of_what_is_told(self):
        heaps = [(0, 4), (9, 1)]
        self.assertIsInstance(spread(heaps), Spread)
        self.assertIs(type(spread(heaps).stretches), list)
        for pair in spread(heaps).stretches + read("0:4 -9:1"):
            self.assertIs(type(pair), tuple)
            self.assertEqual([type(number) for number in pair], [int, int])
        for number in (left(heaps, 0), left(heaps, 1), gave(heaps, 0), gave(heaps, 9), all_gave(heaps)):
            self.assertIs(type(number), int)
        self.assertIs(type(written(heaps)), str)
        self.assertIs(type(read("-")), list)
        self.assertIs(spread(heaps).shows(heaps), True)
        self.assertIs(Spread([]).shows(heaps), False)

    def test_answers_do_not_hang_on_what_was_asked_before(self):
        heaps = [(0, 4), (3, 2)]
        expected = told(heaps)
        spread([(1, 100)])
        self.assertRaises(errors.BadHeaps, spread, [(1, 100), None])
        self.assertRaises(errors.BadPlace, gave, heaps, None)
        self.assertEqual(told(heaps), expected)


class Refused(unittest.TestCase):
    def refused(self, expected, call, *given):
        """The refusal is of just the class expected."""
        try:
            call(*given)
        except errors.HeapError as refusal:
            self.assertIs(type(refusal), expected, given)
        else:
            self.fail(f"nothing refused by {call.__name__}")

    def test_classes_of_refusals(self):
        self.assertEqual(errors.HeapError.__bases__, (ValueError,))
        for refusal in (errors.BadHeaps, errors.BadPlace, errors.BadText):
            self.assertEqual(refusal.__bases__, (errors.HeapError,))

    def test_no_heaps(self):
        for wrong in wrong_heaps():
            self.refused(errors.BadHeaps, spread, wrong)
            self.refused(errors.BadHeaps, left, wrong, 0)
            self.refused(errors.BadHeaps, gave, wrong, 0)
            self.refused(errors.BadHeaps, all_gave, wrong)
            self.refused(errors.BadHeaps, written, wrong)

    def test_no_place(self):
        for heaps in ([], [(0, 5)], [(4, 0), (-3, 10 ** 70)]):
            for wrong in wrong_places():
                self.refused(errors.BadPlace, left, heaps, wrong)
                self.refused(errors.BadPlace, gave, heaps, wrong)

    def test_heaps_are_refused_before_the_place(self):
        for wrong in wrong_heaps():
            for place in (None, True, "1", [1]):
                self.refused(errors.BadHeaps, left, wrong, place)
                self.refused(errors.BadHeaps, gave, wrong, place)

    def test_great_wrong_numbers_are_refused_the_same(self):
        # Python itself cannot write such numbers out, so no refusal may try.
        great = 10 ** 6000
        for call in (spread, all_gave, written):
            self.refused(errors.BadHeaps, call, [(great, 1), (1, -great)])
            self.refused(errors.BadHeaps, call, [(great, None)])
            self.refused(errors.BadHeaps, call, great)

    def test_the_same_heaps_by_hand_are_taken(self):
        # So that nothing above is refused for another reason than the wrong thing in it.
        heaps = [(place, place % 3) for place in range(-9, 9)]
        rest, given = rest_by_hand(heaps, "leftmost")
        self.assertEqual([left(heaps, place) for place in range(-30, 30)],
                         [rest.get(place, 0) for place in range(-30, 30)])
        self.assertEqual(all_gave(heaps), sum(given.values()))


if __name__ == "__main__":
    unittest.main()
