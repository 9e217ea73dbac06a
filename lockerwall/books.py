"""Books of rules: what the box does at each moment."""

from lockerwall.checks import are_distinct_words, is_integer_within, is_word
from lockerwall.errors import NoDays, NoMoment, NoMoments, NoRule

ACTIONS = ("free", "full", "off", "code", "void", "look", "lock")
MOMENTS = ("given", "laid", "left", "opened", "taken", "gone", "late", "power")
MOST_ACTIONS = 6
MOST_DAYS = 30


def is_rule(value):
    """Return whether a value is a tuple of few actions."""
    if not isinstance(value, tuple) or len(value) > MOST_ACTIONS:
        return False
    return all([is_word(action, ACTIONS) for action in value])


class Book:
    """A number of days, and a rule for each moment."""

    def __init__(self, days, given=(), laid=(), left=(), opened=(), taken=(), gone=(), late=(), power=()):
        if not is_integer_within(days, 1, MOST_DAYS):
            raise NoDays("the number of days is not an integer from 1 to 30")
        rules = (given, laid, left, opened, taken, gone, late, power)
        for moment, rule in zip(MOMENTS, rules):
            if not is_rule(rule):
                raise NoRule(moment)
        self._days = days
        self._rules = rules

    def __eq__(self, other):
        return isinstance(other, Book) and self._days == other._days and self._rules == other._rules

    def days(self):
        """Return the number of days."""
        return self._days

    def rule(self, moment):
        """Return the rule for a moment."""
        if not is_word(moment, MOMENTS):
            raise NoMoment(moment)
        return self._rules[MOMENTS.index(moment)]

    def rules(self):
        """Return the rules for all moments, in the order of the moments."""
        return self._rules

    def with_rule(self, moment, rule):
        """Return the book with another rule at one moment."""
        if not is_word(moment, MOMENTS):
            raise NoMoment(moment)
        rules = list(self._rules)
        rules[MOMENTS.index(moment)] = rule
        return Book(self._days, *rules)

    def with_days(self, days):
        """Return the book with another number of days."""
        rules = self._rules
        return Book(days, *rules)

    def taking(self, good, moments):
        """Return the book with the rules of another one at some moments."""
        if not are_distinct_words(moments, MOMENTS):
            raise NoMoments("the moments are not a tuple of distinct moments")
        rules = [good.rule(moment) if moment in moments else self.rule(moment) for moment in MOMENTS]
        return Book(self._days, *rules)
