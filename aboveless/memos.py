"""Memos: the answers of views as they were at their last refresh."""

from aboveless.values import row_rank


def row_forms(world):
    """The dict from (ID, key) of the standing rows of a world to what is compared of them."""
    places = [(source, key, row, label) for source in world.tables() for key, row, label in world.rows(source)]
    return {(source, key): (row_rank(row), str(label)) for source, key, row, label in places}


def differing(world, other):
    first = row_forms(world)
    second = {} if other is None else row_forms(other)
    places = {place: True for forms in (first, second) for place in forms}
    return len([place for place in places if first.get(place) != second.get(place)])


class Memos:
    """The memos of all labels: rows, and the worlds in which they were right."""

    def __init__(self):
        self._memos = {}

    def keep_memo(self, label, source, rows, world):
        self._memos[(str(label), source)] = (rows, world)

    def has_memo(self, label, source):
        return (str(label), source) in self._memos

    def rows_at(self, label, source):
        rows, world = self._memos[(str(label), source)]
        return list(rows)

    def world_at(self, label, source):
        """The world of the last refresh; None if there is no memo."""
        if not self.has_memo(label, source):
            return None
        rows, world = self._memos[(str(label), source)]
        return world

    def take_memo(self, label, source):
        del self._memos[(str(label), source)]
