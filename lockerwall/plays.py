"""Plays: what a list of deeds does at a box, and what goes wrong."""

from lockerwall.box import Box, do_deed
from lockerwall.deeds import check_playable


def played(book, deeds):
    """Play deeds that were checked; return the box behind them and what was told of each."""
    box = Box()
    brought = 0
    story = []
    for deed in deeds:
        if deed[0] == "bring":
            brought += 1
        story.append(do_deed(book, box, deed, brought))
    return box, story


def play(book, deeds):
    """Return the report of each deed: the letters, whether the box was opened, and what was taken."""
    check_playable(deeds)
    _, story = played(book, deeds)
    return [told.report() for told in story]


def faults(book, deeds):
    """Return the faults, as pairs of a kind and the index of the deed."""
    check_playable(deeds)
    _, story = played(book, deeds)
    return [(kind, index) for index, told in enumerate(story) for kind in told.wrongs]


def boxes(book, deeds):
    """Return how the box stands behind the deeds: the door, what lies inside, taken for what, valid codes, days."""
    check_playable(deeds)
    box, _ = played(book, deeds)
    return box.stands()
