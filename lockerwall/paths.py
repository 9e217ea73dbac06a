"""Paths: all clean lists of deeds, of any length, by the few ways in which a box can stand behind them.

Behind a clean list at most one parcel lies in the box, and a parcel that neither lies there nor has a valid code
can do nothing any more unless it is the last one. Those that are left differ in a few things only, and persons for
whom they are the same can do the same: one of them is enough. So there are few ways to stand, whatever the length.
"""

from lockerwall.box import Box, do_deed
from lockerwall.cares import allowed_brings, allowed_codes, allowed_others
from lockerwall.queues import ShortestFirst


class Spot:
    """A list of deeds, the number of brings in it, and the box behind it."""

    def __init__(self, deeds, brought, behind):
        self.deeds = deeds
        self.brought = brought
        self.behind = behind
        self.outline = outline_of(behind)


class Move:
    """A step from one spot to another, and what was told of its last deed."""

    def __init__(self, spot, told, end):
        self.spot = spot
        self.told = told
        self.end = end

    def is_clean(self):
        """Return whether nothing went wrong."""
        return not self.told.wrongs


def traits_of(box, parcel):
    """Return what decides about the future of a parcel; a letter matters only while the parcel lies in the box."""
    lies = parcel in box.inside
    return (lies, parcel in box.valid, parcel in box.served, lies and parcel in box.sent)


def people_of(box):
    """Return a dict with one parcel for each kind of person whose code may do something."""
    people = {}
    for parcel in list(box.valid) + box.inside:
        kind = (parcel == box.last, traits_of(box, parcel))
        if kind not in people:
            people[kind] = parcel
    return people


def outline_of(box):
    """Return what two boxes have in common if the same can happen at both, but for the numbers of the parcels."""
    last = None if box.last is None else traits_of(box, box.last)
    return (box.ajar, box.taken_for, box.age, last, tuple(sorted(people_of(box))))


def steps_from(book, care, box):
    """Return the steps that a care allows and that may do something; each is a list of deeds."""
    deeds = allowed_others(care)
    if box.taken_for == "free":
        deeds.extend(allowed_brings(care))
    people = people_of(box)
    for parcel in people.values():
        deeds.extend(allowed_codes(care, parcel, parcel in box.served))
    return [[deed] for deed in deeds] + day_steps(box.age, [book.days()])


def day_steps(age, numbers):
    """Return a list with the step of all days up to the next one of some books' numbers, or an empty list.

    A day does nothing unless such a number is reached by it. So in a shortest list as many days pass behind a bring
    as one of these numbers, or none, and those up to the next number may as well pass side by side: they are one step.
    """
    if age is None:
        return []
    ahead = [number - age for number in numbers if number > age]
    if not ahead:
        return []
    return [[("day",)] * min(ahead)]


def brought_with(brought, step):
    """Return the number of brings behind a step; a bring is a step of its own."""
    return brought + 1 if step[0][0] == "bring" else brought


def moved(book, spot, step):
    """Return the move that a step from a spot makes."""
    box = spot.behind.copied()
    brought = brought_with(spot.brought, step)
    told = None
    for deed in step:
        told = do_deed(book, box, deed, brought)
    return Move(spot, told, Spot(spot.deeds + step, brought, box))


def first_spot():
    """Return the spot of the list without deeds."""
    return Spot([], 0, Box())


def moves(book, care):
    """Yield all moves from one spot for each way to stand, those from the shortest lists first.

    Only the days are a step of several deeds, and they do nothing wrong. So of all moves with a fault, or with a
    fault of one kind, the first is the shortest.
    """
    queue = ShortestFirst()
    queue.put(first_spot())
    seen = {}
    while queue.has_any():
        spot = queue.take()
        if spot.outline in seen:
            continue
        seen[spot.outline] = True
        for step in steps_from(book, care, spot.behind):
            move = moved(book, spot, step)
            yield move
            if move.is_clean():
                queue.put(move.end)
