"""Paths: all clean lists of deeds, of any length, by the few ways in which a box can stand behind them.

Behind a clean list at most one parcel lies in the box, and a parcel that neither lies there nor has a valid code
can do nothing any more unless it is the last one. Those that are left differ in a few things only, and persons for
whom they are the same can do the same: one of them is enough. So there are few ways to stand, whatever the length.
"""

from heapq import heappop, heappush

from lockerwall.box import Box, do_deed
from lockerwall.cares import allowed_brings, allowed_codes


class Spot:
    """A clean list of deeds, the number of brings in it, and the box behind it."""

    def __init__(self, deeds, brought, behind):
        self.deeds = deeds
        self.brought = brought
        self.behind = behind
        self.outline = outline_of(behind)


class Move:
    """A step from a spot, which is a list of deeds: what was told of its last deed, and the box behind it."""

    def __init__(self, spot, step, told, behind):
        self.spot = spot
        self.step = step
        self.told = told
        self.behind = behind

    def whole(self):
        """Return the deeds of the spot and of the step."""
        return self.spot.deeds + self.step

    def is_clean(self):
        """Return whether nothing went wrong."""
        return not self.told.wrongs

    def end(self):
        """Return the spot to which the step leads; a bring is a step of its own."""
        brought = self.spot.brought + 1 if self.step[0][0] == "bring" else self.spot.brought
        return Spot(self.whole(), brought, self.behind)


def traits_of(box, parcel):
    """Return what decides about the future of a parcel; a letter matters only while the parcel lies in the box."""
    lies = parcel in box.inside
    return (lies, parcel in box.valid, parcel in box.served, lies and parcel in box.sent)


def people_of(box):
    """Return a dict with one parcel for each kind of person whose code may do something."""
    people = {}
    for parcel in list(box.valid) + box.inside:
        kind = (parcel == box.last, traits_of(box, parcel))
        if kind not in people:
            people[kind] = parcel
    return people


def outline_of(box):
    """Return what two boxes have in common if the same can happen at both, but for the numbers of the parcels."""
    last = None if box.last is None else traits_of(box, box.last)
    return (box.ajar, box.taken_for, box.age, last, tuple(sorted(people_of(box))))


def steps_from(book, care, box):
    """Return the steps that a care allows and that may do something; each is a list of deeds.

    A day does nothing unless the book's number is reached by it. So in a shortest list either no day passes behind a
    bring, or as many as that number, and these may as well pass side by side: they are one step.
    """
    deeds = []
    if box.taken_for == "free":
        deeds.extend(allowed_brings(care))
    people = people_of(box)
    for parcel in people.values():
        deeds.extend(allowed_codes(care, parcel, parcel in box.served))
    if "stranger" in care:
        deeds.append(("pass",))
    if "power" in care:
        deeds.append(("power",))
    steps = [[deed] for deed in deeds]
    if box.age is not None and box.age < book.days():
        steps.append([("day",)] * (book.days() - box.age))
    return steps


def moved(book, spot, step):
    """Return the move that a step from a spot makes."""
    box = spot.behind.copied()
    told = None
    for deed in step:
        told = do_deed(book, box, deed, spot.brought + 1)
    return Move(spot, step, told, box)


def moves(book, care):
    """Yield all moves from one spot for each way to stand, those from the shortest lists first.

    Only the days are a step of several deeds, and they do nothing wrong. So of all moves with a fault, or with a
    fault of one kind, the first is the shortest.
    """
    spots = [Spot([], 0, Box())]
    queue = [(0, 0)]
    seen = {}
    while queue:
        _, at = heappop(queue)
        spot = spots[at]
        if spot.outline in seen:
            continue
        seen[spot.outline] = True
        for step in steps_from(book, care, spot.behind):
            move = moved(book, spot, step)
            yield move
            if move.is_clean():
                spots.append(move.end())
                heappush(queue, (len(spots[-1].deeds), len(spots) - 1))
