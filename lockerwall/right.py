"""Whether a book is right for all lists of deeds that a care allows."""

from itertools import combinations

from lockerwall.books import MOMENTS
from lockerwall.cares import check_care
from lockerwall.checks import is_word
from lockerwall.errors import NoKind
from lockerwall.paths import moves
from lockerwall.plays import played

KINDS = ("two", "wrong", "empty", "refused")


def first_fault(book, care):
    """Return a shortest list of deeds with faults, or None if the book is right."""
    check_care(care)
    for move in moves(book, care):
        if not move.is_clean():
            return move.end.deeds
    return None


def is_right(book, care):
    """Return whether no list of deeds has faults."""
    return first_fault(book, care) is None


def first_of(book, care, kind):
    """Return a shortest list of deeds with a fault of this kind at its last deed and none before, or None."""
    check_care(care)
    if not is_word(kind, KINDS):
        raise NoKind("this is not a kind of fault")
    for move in moves(book, care):
        if kind in move.told.wrongs:
            return move.end.deeds
    return None


def idle(book, care):
    """Return the moments whose rules are carried out in no clean list."""
    check_care(care)
    carried = {}
    for move in moves(book, care):
        if move.is_clean():
            for moment in move.told.moments:
                carried[moment] = True
    return [moment for moment in MOMENTS if moment not in carried]


def fewest_taken(book, good, care):
    """Return the fewest moments whose rules make the book right if they are taken from the good one, or None."""
    check_care(care)
    shown = []
    names = list(MOMENTS)
    for many in range(len(MOMENTS) + 1):
        for chosen in combinations(names, many):
            if is_shown_wrong(shown, chosen):
                continue
            tried = book.taking(good, chosen)
            deeds = first_fault(tried, care)
            if deeds is None:
                return chosen
            shown.append(what_it_shows(tried, chosen, deeds))
    return None


def what_it_shows(tried, chosen, deeds):
    """Return the moments whose rules a list of deeds with faults carried out, and those of them that were chosen."""
    _, story = played(tried, deeds)
    carried = [moment for told in story for moment in told.moments]
    return (carried, common(carried, chosen))


def is_shown_wrong(shown, chosen):
    """Return whether a list of deeds that was found for other chosen moments goes wrong for these in the same way.

    It does if it carries out no rule in which the two books differ. This spares most of the searches.
    """
    return any([common(carried, chosen) == held for carried, held in shown])


def common(moments, chosen):
    """Return those of some moments that are chosen."""
    return [moment for moment in moments if moment in chosen]
