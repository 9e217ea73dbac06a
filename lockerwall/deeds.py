"""Deeds: which values are deeds, and which lists of them can be played."""

from lockerwall.checks import is_integer_within, is_truth
from lockerwall.errors import NoDeed, NoParcel

MOST_PARCEL = 10 ** 9
SINGLE_WORDS = ("pass", "day", "power")


def are_truths(values):
    """Return whether all of some values are True or False."""
    return all([is_truth(value) for value in values])


def is_deed(value):
    """Return whether a value is a deed."""
    if not isinstance(value, tuple) or len(value) == 0 or not isinstance(value[0], str):
        return False
    word = value[0]
    if word == "bring":
        return len(value) == 3 and are_truths(value[1:])
    if word == "code":
        return len(value) == 4 and is_integer_within(value[1], 1, MOST_PARCEL) and are_truths(value[2:])
    return len(value) == 1 and word in SINGLE_WORDS


def check_are_deeds(deeds):
    """Raise NoDeed unless the value is a list of deeds."""
    if not isinstance(deeds, list):
        raise NoDeed(0)
    for index, deed in enumerate(deeds):
        if not is_deed(deed):
            raise NoDeed(index)


def check_playable(deeds):
    """Raise NoDeed unless the value is a list of deeds, then NoParcel if a code is for a parcel not yet brought."""
    check_are_deeds(deeds)
    brought = 0
    for index, deed in enumerate(deeds):
        if deed[0] == "bring":
            brought += 1
        elif deed[0] == "code" and deed[1] > brought:
            raise NoParcel(index)
