"""Cares: which deeds the people at a box may do."""

from lockerwall.checks import are_distinct_words
from lockerwall.errors import NoCare

CARES = ("ajar", "bare", "power", "stranger", "twice")


def check_care(care):
    """Raise NoCare unless the value is a care."""
    if not are_distinct_words(care, CARES):
        raise NoCare("the care is not a tuple of distinct kinds of carelessness")


def ways(care, word):
    """Return what people do: the careful thing, and also the other one if the care allows it."""
    return [True, False] if word in care else [True]


def allowed_brings(care):
    """Return the brings that a care allows."""
    return [("bring", lays, shuts) for lays in ways(care, "bare") for shuts in ways(care, "ajar")]


def allowed_codes(care, parcel, served):
    """Return the codes of a parcel that a care allows; served tells whether the person has taken it before."""
    if served and "twice" not in care:
        return []
    return [("code", parcel, takes, shuts) for takes in ways(care, "twice") for shuts in ways(care, "ajar")]


def allowed_others(care):
    """Return the other deeds that a care allows, but for the day, which all of them allow."""
    deeds = []
    if "stranger" in care:
        deeds.append(("pass",))
    if "power" in care:
        deeds.append(("power",))
    return deeds
