"""A second, slow telling of a wall, by the states of tests/oracle.py, to compare with.

It keeps the calls that are not taken back and does all of them anew when it is asked.
"""

from tests import oracle


class SlowWall:
    def __init__(self, book, sizes):
        self.first = book
        self.sizes = sizes
        self.calls = []

    def do(self, *call):
        """Do a call, as a tuple of its name and its arguments, and return what it tells."""
        if call[0] == "undo":
            self.calls.pop()
            return None
        self.calls.append(call)
        return self.stand()[0]

    def stand(self):
        """Do all calls; return what the last one tells, the book, the states, and the parcels of each box in order."""
        self.book = self.first
        self.states = [oracle.start() for _ in self.sizes]
        self.given = {}
        self.numbers = [[] for _ in self.sizes]
        told = None
        for name, *arguments in self.calls:
            told = getattr(self, name)(*arguments)
        return told, self.book, self.states, self.numbers

    def deed(self, box, *deed):
        """Do a deed at a box; return its report with the wall's numbers of the parcels."""
        report, _, _ = oracle.deed_at(self.book, self.states[box], deed)
        letters, opened, got = report
        own = self.numbers[box]
        return [own[parcel - 1] for parcel in letters], opened, [own[parcel - 1] for parcel in got]

    def bring(self, size, lays, shuts):
        parcel = len(self.given) + 1
        fits = [(room, box) for box, room in enumerate(self.sizes) if room >= size and self.states[box]["for"] == "free"]
        self.given[parcel] = min(fits)[1] if fits else None
        if not fits:
            return (parcel, None, [])
        box = self.given[parcel]
        self.numbers[box].append(parcel)
        return (parcel, box, self.deed(box, "bring", lays, shuts)[0])

    def code(self, parcel, takes, shuts):
        box = self.given[parcel]
        if box is None:
            return ([], False, [])
        return self.deed(box, "code", self.numbers[box].index(parcel) + 1, takes, shuts)

    def pass_by(self, box):
        return self.deed(box, "pass")[2]

    def day(self):
        return sum([self.deed(box, "day")[0] for box in range(len(self.sizes))], [])

    def power(self):
        return sum([self.deed(box, "power")[0] for box in range(len(self.sizes))], [])

    def change(self, book):
        self.book = book

    def picture(self):
        """Return how all boxes stand, the numbers of parcels that were brought and that lie there, and the book."""
        _, book, states, numbers = self.stand()
        boxes, lying = [], []
        for state, own in zip(states, numbers):
            inside = [own[parcel - 1] for parcel in sorted(state["in"])]
            valid = [own[parcel - 1] for parcel in sorted(state["valid"])]
            boxes.append((state["open"], inside, state["for"], valid, state["days"]))
            lying += inside
        return boxes, len(self.given), sorted(lying), book


def picture_of(wall):
    """Return the same of a live wall, and check what it says in several ways."""
    boxes = [wall.box(number) for number in range(len(wall))]
    lying = [parcel for parcel in range(-1, wall.parcels + 3) if parcel in wall]
    assert wall.lying == len(lying) == sum(len(box[1]) for box in boxes)
    return boxes, wall.parcels, lying, wall.book
