"""Questions about values of any kind, which are asked of arguments."""


def is_integer_within(value, low, high):
    """Return whether a value is an integer from low to high; True and False are none."""
    return isinstance(value, int) and not isinstance(value, bool) and low <= value <= high


def is_truth(value):
    """Return whether a value is True or False; 1 and 0 are not, though they are equal to them."""
    return value is True or value is False


def is_word(value, words):
    """Return whether a value is one of some strings."""
    return isinstance(value, str) and value in words


def are_distinct_words(value, words):
    """Return whether a value is a tuple of distinct ones of some strings."""
    if not isinstance(value, tuple) or not all([is_word(item, words) for item in value]):
        return False
    return len(set(value)) == len(value)
