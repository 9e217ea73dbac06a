"""What lasts: parcels that nobody can get out any more, and boxes that never take a parcel again."""

from lockerwall.cares import check_care
from lockerwall.paths import first_spot, moves


def first_stuck(book, care):
    """Return a shortest clean list behind which the parcel in the box can never be taken cleanly, or None."""
    check_care(care)
    known = clean_moves(book, care)
    # In a clean list nobody takes a parcel but the person to whom it is sent, and no second one comes to lie there.
    hopeful = ways_ahead_of([move.spot.outline for move in known if move.told.got], known)
    spots = [move.end for move in known if move.end.behind.inside]
    return shortest_other(spots, hopeful)


def first_dead(book, care):
    """Return a shortest clean list behind which no parcel can ever be laid into the box cleanly, or None."""
    check_care(care)
    known = clean_moves(book, care)
    hopeful = ways_ahead_of([move.spot.outline for move in known if move.told.lays], known)
    spots = [first_spot()] + [move.end for move in known]
    return shortest_other(spots, hopeful)


def clean_moves(book, care):
    """Return the moves that make clean lists."""
    return [move for move in moves(book, care) if move.is_clean()]


def ways_ahead_of(wanted, known):
    """Return, as keys of a dict, the outlines from which some of the known moves, or none, lead to a wanted one."""
    sources = {}
    for move in known:
        sources.setdefault(move.end.outline, []).append(move.spot.outline)
    found = {}
    waiting = list(wanted)
    while waiting:
        outline = waiting.pop()
        if outline not in found:
            found[outline] = True
            waiting.extend(sources.get(outline, []))
    return found


def shortest_other(spots, hopeful):
    """Return the fewest deeds that lead to one of some spots that is not hopeful, or None."""
    return min([spot.deeds for spot in spots if spot.outline not in hopeful], key=len, default=None)
