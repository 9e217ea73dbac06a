"""Live walls: many boxes with one book, with undo."""

from lockerwall.box import Box
from lockerwall.checks import is_integer_within
from lockerwall.deeds import are_truths
from lockerwall.errors import NoBox, NoDeed, NoParcel, NoSize, NoSizes, NothingToUndo

MOST_BOXES = 12
MOST_SIZE = 9


def is_size(value):
    """Return whether a value is the size of a parcel or of a box."""
    return is_integer_within(value, 1, MOST_SIZE)


def are_sizes(value):
    """Return whether a value is a tuple of the sizes of a few boxes."""
    if not isinstance(value, tuple) or not 1 <= len(value) <= MOST_BOXES:
        return False
    return all([is_size(size) for size in value])


def check_truths(values):
    """Raise NoDeed, for the only deed that there is, unless all of some values are True or False."""
    if not are_truths(values):
        raise NoDeed(0)


class Wall:
    """Boxes of some sizes, all with the same book."""

    def __init__(self, book, sizes):
        if not are_sizes(sizes):
            raise NoSizes("the sizes are not a tuple of 1 to 12 integers from 1 to 9")
        self._book = book
        self._sizes = sizes
        self._boxes = [Box() for _ in sizes]
        self._given = []
        self._past = []

    def __len__(self):
        return len(self._sizes)

    def __contains__(self, parcel):
        if not self._was_brought(parcel):
            return False
        return any([parcel in box.inside for box in self._boxes])

    @property
    def parcels(self):
        """Return the number of parcels that were brought."""
        return len(self._given)

    @property
    def lying(self):
        """Return the number of parcels that lie in boxes."""
        return sum([len(box.inside) for box in self._boxes])

    @property
    def book(self):
        """Return the book."""
        return self._book

    @book.setter
    def book(self, value):
        """Go on with another book."""
        self.change(value)

    def bring(self, size, lays, shuts):
        """Let a courier bring a parcel; return it with the number of its box, or None, and the letters."""
        if not is_size(size):
            raise NoSize("the size is not an integer from 1 to 9")
        check_truths((lays, shuts))
        self._remember()
        number = self._fitting(size)
        self._given.append(number)
        parcel = len(self._given)
        if number is None:
            return (parcel, None, [])
        told = self._boxes[number].bring(self._book, parcel, lays, shuts)
        return (parcel, number, told.letters)

    def code(self, parcel, takes, shuts):
        """Let the person to whom a parcel is sent enter its code at its box; return the report."""
        if not self._was_brought(parcel):
            raise NoParcel(parcel)
        check_truths((takes, shuts))
        self._remember()
        number = self._given[parcel - 1]
        if number is None:
            return ([], False, [])
        told = self._boxes[number].code(self._book, parcel, takes, shuts)
        return told.report()

    def pass_by(self, box):
        """Let a stranger come by a box; return what they took."""
        self._check_box(box)
        self._remember()
        return self._boxes[box].pass_by().got

    def day(self):
        """Let a day pass at all boxes; return the letters."""
        self._remember()
        letters = []
        for box in self._boxes:
            letters.extend(box.day(self._book).letters)
        return letters

    def power(self):
        """Let the power fail and come back at all boxes; return the letters."""
        self._remember()
        letters = []
        for box in self._boxes:
            letters.extend(box.power(self._book).letters)
        return letters

    def box(self, number):
        """Return how a box stands."""
        self._check_box(number)
        return self._boxes[number].stands()

    def change(self, book):
        """Go on with another book; the boxes stay as they are."""
        self._remember()
        self._book = book

    def undo(self):
        """Take back the last call that changed the wall and is not taken back."""
        if not self._past:
            raise NothingToUndo("no call is left that can be taken back")
        self._book, self._boxes, self._given = self._past.pop()

    def _was_brought(self, value):
        """Return whether a value is a parcel that was brought."""
        return is_integer_within(value, 1, len(self._given))

    def _check_box(self, number):
        """Raise NoBox unless there is a box with this number."""
        if not is_integer_within(number, 0, len(self._boxes) - 1):
            raise NoBox(number)

    def _remember(self):
        """Put aside how the wall stands, for an undo, and go on with a copy of it."""
        self._past.append((self._book, self._boxes, self._given))
        self._boxes = [box.copied() for box in self._boxes]
        self._given = list(self._given)

    def _fitting(self, size):
        """Return the number of the first box of the least fitting size that is taken for free, or None."""
        fitting = []
        for number, box in enumerate(self._boxes):
            if box.taken_for == "free" and self._sizes[number] >= size:
                fitting.append((self._sizes[number], number))
        if not fitting:
            return None
        return min(fitting)[1]
