"""Promise 7: heaps as texts, and read again."""

import unittest

from spreadrow.errors import BadHeaps, BadText
from spreadrow.texts import read, written
from tests.helper import NO_LISTS, odd_heaps, small_heaps

MOST = 10 ** 60 - 1

RIGHT = (
    ([], "-"),
    ([(0, 0)], "0:0"),
    ([(0, 3)], "0:3"),
    ([(-5, 2)], "-5:2"),
    ([(7, 0), (7, 1), (-7, 10)], "7:0 7:1 -7:10"),
    ([(3, 1), (1, 2), (2, 3), (1, 2)], "3:1 1:2 2:3 1:2"),
    ([(10, 100), (-100, 1000)], "10:100 -100:1000"),
    ([(MOST, MOST)], "9" * 60 + ":" + "9" * 60),
    ([(-MOST, 0)], "-" + "9" * 60 + ":0"),
    ([(10 ** 59, 10 ** 59), (-10 ** 59, 1)], "1" + "0" * 59 + ":1" + "0" * 59 + " -1" + "0" * 59 + ":1"),
)

NEAR = (
    "", " ", "  ", "--", "- ", " -", "- -", "-:", ":", "::", "0", "1", "-1", "12", "1:", ":1", "1::2", "1:2:3",
    "1:2:", ":1:2", "-:1", "--1:2", "1-:2", "1:-2", "1:-0", "1:--2", "-0:1", "-00:1", "-01:1", "00:1", "01:1",
    "1:00", "1:01", "1:02", "+1:2", "1:+2", " 1:2", "1:2 ", "1:2  3:4", " 1:2 3:4", "1:2 3:4 ", "1 :2", "1: 2",
    "- 1:2", "1:2\n", "\n1:2", "1:2\n3:4", "1:2\t3:4", "1:\t2", "1:2,3:4", "1:2;3:4", "1;2", "1,2", "1.0:2",
    "1:2.0", "1e3:2", "1:1e3", "0x1:2", "1_0:2", "1:1_0", "a:1", "1:a", "a", "(1, 2)", "[(1, 2)]", "1:2 -",
    "- 1:2", "-1", "1:2 3", "3 1:2", "1:2 -0:1", "1:2 3:04", "1:2\x00", "\x001:2", "1:2\r", "1:2\x1f3:4",
    "1:2 :3", "1:2 3:", "1:2 3:4 5:-6", "None", "True:1", "1:True", "/:1", "1:/", "`:1", "~", "1:2~", "1:2|3:4",
    "1:2 1:2\n", "1:2\x0b", "1:2\x0c3:4", "1:2 \n3:4", "-1:-1", "-:-", "1:2-3:4", "1-2:3",
)


class Written(unittest.TestCase):
    def test_sign_by_sign(self):
        for heaps, text in RIGHT:
            self.assertEqual(written(heaps), text)

    def test_numbers_of_more_than_sixty_figures(self):
        for great in (10 ** 60, 10 ** 60 + 1, 10 ** 61, 10 ** 100, 10 ** 6000):
            for heaps in ([(great, 1)], [(-great, 1)], [(1, great)], [(1, 2)] * 500 + [(0, great)]):
                self.assertRaises(BadHeaps, written, heaps)

    def test_no_heaps(self):
        for wrong in NO_LISTS + [[None], [(1, -1)], [[1, 2]], [(True, 1)], [(1, "1")], [(1, 2, 3)]]:
            self.assertRaises(BadHeaps, written, wrong)


class Read(unittest.TestCase):
    def test_sign_by_sign(self):
        for heaps, text in RIGHT:
            self.assertEqual(read(text), heaps)

    def test_read_again(self):
        for heaps in small_heaps() + [odd_heaps(seed, 50, 10 ** 6, 10 ** 6) for seed in range(20)]:
            self.assertEqual(read(written(heaps)), heaps)

    def test_near_to_right_ones(self):
        for text in NEAR:
            with self.assertRaises(BadText, msg=repr(text)):
                read(text)

    def test_numbers_of_more_than_sixty_figures(self):
        for figures in (61, 62, 100, 5000):
            great = "1" + "0" * (figures - 1)
            for text in (great + ":1", "-" + great + ":1", "1:" + great, "1:2 3:" + great, "0" * figures + ":1"):
                self.assertRaises(BadText, read, text)

    def test_signs_just_beside_figures(self):
        for code in range(127):
            sign = chr(code)
            for text in (sign + ":1", "1:" + sign, "1" + sign + ":1", "1:1" + sign, "1" + sign + "1", "1:1" + sign + "1:1"):
                try:
                    heaps = read(text)
                except BadText:
                    continue
                self.assertEqual(written(heaps), text)

    def test_every_short_text(self):
        # Just what some heaps are written as is read: of short texts, all are tried.
        signs = "01-: "
        texts = [""]
        right = {"-"}
        for text in texts:
            if len(text) < 6:
                texts.extend(text + sign for sign in signs)
        for place in (0, 1, 10, 11, 100, 101, 110, 111, 1000, 1001, 1010, 1011, 1100, 1101, 1110, 1111):
            for count in (0, 1, 10, 11, 100, 101, 110, 111, 1000, 1001, 1010, 1011, 1100, 1101, 1110, 1111):
                right.update((f"{place}:{count}", f"-{place}:{count}" if place else "-"))
        read_ones = set()
        for text in texts:
            try:
                self.assertEqual(written(read(text)), text)
            except BadText:
                continue
            read_ones.add(text)
        self.assertEqual(read_ones, {text for text in right if len(text) <= 6})

    def test_no_text(self):
        wrong = [None, True, False, 0, 1, b"", b"-", b"1:2", [], ["1:2"], [(1, 2)], (), ("-",), {}, {"-": 1}, {"-"},
                 object(), str, len, ..., range(2), iter("-")]
        for other in wrong:
            self.assertRaises(BadText, read, other)


if __name__ == "__main__":
    unittest.main()
