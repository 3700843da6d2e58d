"""How often places give until all rest."""

from spreadrow.heaps import check_heaps, check_place, rest_stretches


def gave(heaps, place):
    """How often the place gives."""
    check_heaps(heaps)
    check_place(place)
    # Each giving moves one a step left and one a step right. Measured by how far
    # things lie left of the place (0 for all others), only a giving at the place
    # itself changes the sum, and makes it greater by one.
    now = sum([way_to(place, first, last) for first, last in rest_stretches(heaps)])
    before = sum([count * (place - at) for at, count in heaps if at < place])
    return now - before


def all_gave(heaps):
    """How often all places together give."""
    check_heaps(heaps)
    now = sum([squares(first, last) for first, last in rest_stretches(heaps)])
    before = sum([count * at * at for at, count in heaps])
    return (now - before) // 2


def way_to(place, first, last):
    """The sum of the ways to the place from all places of a stretch left of it."""
    if first >= place:
        return 0
    nearest = min(last, place - 1)
    return (place - first + place - nearest) * (nearest - first + 1) // 2


def squares(first, last):
    """The sum of the squares of all places of a stretch."""
    return squares_to(last) - squares_to(first - 1)


def squares_to(last):
    # Below 0 this tells what is missing to 0, so that differences hold on the whole line.
    return last * (last + 1) * (2 * last + 1) // 6
