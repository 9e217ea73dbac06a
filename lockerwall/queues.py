"""A queue of lists of deeds, from which the shortest one is taken first."""

from heapq import heappop, heappush


class ShortestFirst:
    """A queue of objects that hold deeds; of those with as few deeds the one that came first is taken first."""

    def __init__(self):
        self._items = []
        self._order = []

    def put(self, item):
        """Put an object into the queue."""
        heappush(self._order, (len(item.deeds), len(self._items)))
        self._items.append(item)

    def has_any(self):
        """Return whether an object is left."""
        return len(self._order) > 0

    def take(self):
        """Take the object with the fewest deeds out of the queue and return it."""
        _, at = heappop(self._order)
        return self._items[at]
