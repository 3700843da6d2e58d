"""What is left when all rest."""

from spreadrow.answers import Spread
from spreadrow.heaps import check_heaps, check_place, rest_stretches


def spread(heaps):
    """The stretches of places that have one each when all rest, as a Spread."""
    check_heaps(heaps)
    return Spread(rest_stretches(heaps))


def left(heaps, place):
    """What the place has when all rest: 1 or 0."""
    check_heaps(heaps)
    check_place(place)
    for first, last in rest_stretches(heaps):
        if first <= place <= last:
            return 1
    return 0
