"""What heaps are, and where they rest: what the other files share.

Heaps whose givings touch make a block. Every place inside of a block has
given, and when all rest at most one of such places has none: of two of them,
and all places between, the one whose last giving came first was given
something by each neighbour among these afterwards. The places just beyond
those that gave have one each. So a block of n rests on n + 1 places side by
side less one of them, and the sum of all places, which giving keeps, tells
which ones.
"""

from spreadrow.errors import BadHeaps, BadPlace


def is_number(value):
    return isinstance(value, int) and not isinstance(value, bool)


def is_heap(value):
    if not isinstance(value, tuple) or len(value) != 2:
        return False
    return is_number(value[0]) and is_number(value[1]) and value[1] >= 0


def check_heaps(heaps):
    if not isinstance(heaps, list):
        raise BadHeaps("heaps are a list")
    for heap in heaps:
        if not is_heap(heap):
            raise BadHeaps("a heap is a pair of a place and a count, 0 or more")


def check_place(place):
    if not is_number(place):
        raise BadPlace("a place is a whole number")


class Block:
    """One or more, `many` of them, at rest: their places add up to `total`."""

    def __init__(self, many, total):
        steps = many * (many + 1) // 2
        first = (total - steps) // many + 1
        # Of many + 1 places from the first on, the one that the sum is without.
        gap = (many + 1) * first + steps - total
        last = first + many
        self.many = many
        self.total = total
        self.parts = [(first, gap - 1)]
        # Otherwise the gap is the last place, and the block is whole.
        if gap < last:
            self.parts.append((gap + 1, last))

    def begin(self):
        return self.parts[0][0]

    def end(self):
        return self.parts[-1][1]


def rest_blocks(heaps):
    blocks = []
    # From left to right: a new block can then only touch the last of those before.
    for place, count in sorted(heaps):
        if count > 0:
            block = Block(count, count * place)
            while blocks and blocks[-1].end() >= block.begin():
                before = blocks.pop()
                block = Block(before.many + block.many, before.total + block.total)
            blocks.append(block)
    return blocks


def rest_stretches(heaps):
    """The stretches of places that have one each when all rest."""
    joined = []
    for block in rest_blocks(heaps):
        for first, last in block.parts:
            # Blocks may rest side by side without having touched.
            if joined and joined[-1][1] + 1 == first:
                joined[-1] = (joined[-1][0], last)
            else:
                joined.append((first, last))
    return joined
