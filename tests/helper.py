"""What several tests share: giving done one at a time, and what heaps and places are not."""

from itertools import product

# The ways to choose who gives next, of the places that may, from left to right.
ORDERS = {
    "leftmost": lambda ready, turn: ready[0],
    "rightmost": lambda ready, turn: ready[-1],
    "middle": lambda ready, turn: ready[len(ready) // 2],
    "by turns": lambda ready, turn: ready[turn % len(ready)],
    "outer ones": lambda ready, turn: ready[-(turn % 2)],
}


def rest_by_hand(heaps, order):
    """What is left at each place, and how often each gave, as two dicts without noughts."""
    has = {}
    for place, count in heaps:
        has[place] = has.get(place, 0) + count
    given = {}
    turn = 0
    while True:
        ready = sorted(place for place in has if has[place] >= 2)
        if not ready:
            return {place: has[place] for place in has if has[place]}, given
        place = ORDERS[order](ready, turn)
        has[place] -= 2
        for beside in (place - 1, place + 1):
            has[beside] = has.get(beside, 0) + 1
        given[place] = given.get(place, 0) + 1
        turn += 1


def small_heaps():
    """Many small heaps, close by and further off, also in no order and several for one place."""
    found = []
    for counts in product((0, 1, 2, 5), repeat=4):
        for places in ((0, 1, 2, 3), (-3, -1, 1, 3), (4, -2, 0, 4), (-9, -1, 0, 8)):
            found.append(list(zip(places, counts)))
    return found


def odd_heaps(seed, many, width, most):
    """Heaps in no order, the same for the same arguments."""
    found = []
    for _ in range(many):
        seed = (seed * 1103515245 + 12345) % 2 ** 31
        place = (seed >> 8) % (2 * width + 1) - width
        seed = (seed * 1103515245 + 12345) % 2 ** 31
        found.append((place, (seed >> 8) % (most + 1)))
    return found


def places_of(stretches):
    return [place for first, last in stretches for place in range(first, last + 1)]


def own_heaps(heaps, place):
    return sum(count for at, count in heaps if at == place)


class Thing:
    """An object of a class that the program does not know."""


NO_NUMBERS = [
    None, True, False, "", "1", b"1", [], [1], (), (1,), (1, 2), {}, {1: 2}, set(), {1},
    range(3), 1j, Thing(), Thing, len, ..., frozenset([1]),
]

NO_PAIRS = [
    None, True, False, 0, 1, "", "1", "12", "1:2", b"12", [], [1, 2], {}, {1: 2, 3: 4}, {1, 2},
    (), (1,), (1, 2, 3), ((1, 2),), ((1, 2), (3, 4)), [(1, 2)], range(2), Thing(), Thing, len,
    iter([1, 2]),
]

NO_LISTS = [
    None, True, False, 0, 1, -1, 10 ** 70, "", "-", "1:2", b"", b"1:2", (), (1, 2), ((1, 2),),
    ((1, 2), (3, 4)), {}, {1: 2}, {(1, 2): 3}, set(), {(1, 2)}, frozenset([(1, 2)]), range(0),
    range(3), iter([]), iter([(1, 2)]), zip([1], [2]), Thing(), Thing, len, ..., {1: 2}.items(),
]


def wrong_heaps():
    """Of many kinds; what is wrong in a list stands alone, first, and late in a long one."""
    wrong = list(NO_LISTS)
    pairs = list(NO_PAIRS)
    pairs.extend((other, 1) for other in NO_NUMBERS)
    pairs.extend((1, other) for other in NO_NUMBERS)
    pairs.extend((1, below) for below in (-1, -2, -10 ** 45, -10 ** 5000))
    long = [(place, place % 3) for place in range(-200, 200)]
    for pair in pairs:
        wrong.append([pair])
        wrong.append([pair, (1, 2)])
        wrong.append(long + [pair])
    # Right counts of a place do not make up for one below 0.
    wrong.append([(0, 5), (0, -1)])
    return wrong


def wrong_places():
    return list(NO_NUMBERS)
