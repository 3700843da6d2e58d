"""The refusals of the program."""


class HeapError(ValueError):
    """Something handed in is refused."""


class BadHeaps(HeapError):
    """What is handed in as heaps is not heaps, or is too great to be written."""


class BadPlace(HeapError):
    """What is handed in as a place is no whole number."""


class BadText(HeapError):
    """What is handed in as a text is not what heaps are written as."""
