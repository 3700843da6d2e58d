"""Heaps as texts."""

from spreadrow.errors import BadHeaps, BadText
from spreadrow.heaps import check_heaps

MOST_FIGURES = 60
NO_HEAPS = "-"


def written(heaps):
    """The text of the heaps, one by one."""
    check_heaps(heaps)
    for place, count in heaps:
        if not fits(place) or not fits(count):
            raise BadHeaps("a number that is written has at most sixty figures")
    if len(heaps) == 0:
        return NO_HEAPS
    return " ".join([f"{place}:{count}" for place, count in heaps])


def read(text):
    """The heaps that are written as the text."""
    if not isinstance(text, str):
        raise BadText("what is read is a text")
    if text == NO_HEAPS:
        return []
    return [read_heap(word) for word in text.split(" ")]


def fits(number):
    # Not by its figures: Python refuses to write very great numbers out.
    return abs(number) < 10 ** 60


def read_heap(word):
    place, _, count = word.partition(":")
    return (read_place(place), read_number(count))


def read_place(word):
    if not word.startswith("-"):
        return read_number(word)
    size = read_number(word[1:])
    if size == 0:
        raise BadText("0 is written without a sign")
    return -size


def read_number(word):
    # isdigit alone takes figures of other scripts, too.
    if not word.isascii() or not word.isdigit():
        raise BadText("a number is written in figures")
    if len(word) > MOST_FIGURES:
        raise BadText("a number has at most sixty figures")
    if word.startswith("0") and word != "0":
        raise BadText("a number is written without a needless nought")
    return int(word)
