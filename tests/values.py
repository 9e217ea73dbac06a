"""Values of many kinds, for arguments that may be any value."""

from lockerwall.books import Book

GOOD = Book(3, given=("void", "full"), laid=("code",), left=("lock", "code"), taken=("free",), gone=("lock", "look"))
ALL_CARE = ("ajar", "bare", "power", "stranger", "twice")
NAN = float("nan")

ODD = [
    None, True, False, 0, 1, 2, 9, 10, 30, 31, -1, 10 ** 9, 10 ** 9 + 1, 10 ** 40, 0.0, 1.0, 2.5, NAN, 1j,
    "", "a", "1", "free", "given", "Given", "given ", "ajar", "two", "bring", "day", "one of many words",
    b"", b"given", bytearray(b"x"), (), (1,), ("free",), ("given",), ("given", "given"), (["given"],), ({},),
    ("ajar", 1), ("day",), (("day",),), ((),), [], [1], ["free"], ["given"], [("day",)], [[]], {}, {"given": 1},
    {1}, set(), frozenset(), frozenset(["given"]), range(3), object(), len, int, lambda: None, ValueError("x"), ...,
]


def same(one, other):
    """Return whether two values are the same one, or equal and of one kind."""
    return one is other or (type(one) is type(other) and one == other)


def all_but(values):
    """Return the odd values without some."""
    return [odd for odd in ODD if not any(same(odd, value) for value in values)]
