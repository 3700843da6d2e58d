"""What is told of heaps when all rest."""

from spreadrow.heaps import rest_stretches


class Spread:
    """Stretches of places, pairs of a first and a last one, that have one each."""

    def __init__(self, stretches):
        self.stretches = list(stretches)

    def shows(self, heaps):
        """Whether just these places have one each when all of the heaps rest."""
        return self.stretches == rest_stretches(heaps)
