"""Whether two books are the same to everybody.

The boxes of both books stand side by side. As long as all was told alike, the same parcels were given a box and the
same were taken by the same persons; so both boxes have the same last parcel, the same days and the same persons who
were served. Parcels differ in a few things only, and few of those that are alike are enough. So there are few ways
for both boxes to stand, whatever the length of the list.
"""

from lockerwall.box import Box, do_deed
from lockerwall.cares import allowed_brings, allowed_codes, allowed_others, check_care
from lockerwall.paths import brought_with, day_steps
from lockerwall.queues import ShortestFirst


class Pair:
    """A list of deeds, the number of brings in it, the boxes of two books, and whether they told the list unlike."""

    def __init__(self, deeds, brought, one, two, apart):
        self.deeds = deeds
        self.brought = brought
        self.one = one
        self.two = two
        self.apart = apart


def told_apart(book, other, care):
    """Return a shortest list of deeds that the two books play unlike, or None."""
    check_care(care)
    queue = ShortestFirst()
    queue.put(Pair([], 0, Box(), Box(), False))
    seen = {}
    while queue.has_any():
        pair = queue.take()
        if pair.apart:
            return pair.deeds
        people = people_of_both(care, pair)
        outline = outline_of_both(care, pair, people)
        if outline not in seen:
            seen[outline] = True
            for step in steps_of_both(care, pair, people, [book.days(), other.days()]):
                queue.put(led(book, other, pair, step))
    return None


def kind_of(care, pair, parcel):
    """Return what decides about the future of a parcel; a code that its person may not enter counts as not valid."""
    one, two = pair.one, pair.two
    may = "twice" in care or parcel not in one.served
    valid = (may and parcel in one.valid, may and parcel in two.valid)
    return (may, parcel == one.last, parcel in one.inside, parcel in two.inside, *valid)


def people_of_both(care, pair):
    """Return a dict with the parcels of each kind; those are left out that can do nothing any more."""
    people = {}
    for parcel in range(1, pair.brought + 1):
        kind = kind_of(care, pair, parcel)
        if True in kind[1:]:
            people.setdefault(kind, []).append(parcel)
    return people


def outline_of_both(care, pair, people):
    """Return what two pairs have in common if the same can happen at both, but for the numbers of the parcels.

    One of several parcels that are alike is enough if their persons may come again and again. Otherwise two are, as
    one person may take all that lies there, and be served then, and another one may still come.
    """
    one, two = pair.one, pair.two
    enough = 1 if "twice" in care else 2
    groups = sorted([(kind, min(len(parcels), enough)) for kind, parcels in people.items()])
    return (one.ajar, two.ajar, one.taken_for, two.taken_for, one.age, tuple(groups))


def steps_of_both(care, pair, people, numbers):
    """Return the steps that a care allows and that may do something at one of the boxes; each is a list of deeds."""
    one, two = pair.one, pair.two
    deeds = allowed_others(care)
    if "free" in (one.taken_for, two.taken_for):
        deeds.extend(allowed_brings(care))
    for parcels in people.values():
        parcel = parcels[0]
        if parcel in one.valid or parcel in two.valid:
            deeds.extend(allowed_codes(care, parcel, parcel in one.served))
    return [[deed] for deed in deeds] + day_steps(one.age, numbers)


def led(book, other, pair, step):
    """Return the pair to which a step leads; only its last deed may tell something, as all days ahead do nothing."""
    one, two = pair.one.copied(), pair.two.copied()
    brought = brought_with(pair.brought, step)
    apart = False
    for deed in step:
        told = do_deed(book, one, deed, brought)
        apart = told.report() != do_deed(other, two, deed, brought).report()
    return Pair(pair.deeds + step, brought, one, two, apart)
