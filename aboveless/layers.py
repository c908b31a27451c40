"""The layers of one table: what each label says of its rows."""

from aboveless.errors import InvalidKey, InvalidRow, NoEntry
from aboveless.labels import check_label
from aboveless.values import in_value_order, is_key, is_value_or_empty, row_rank


def is_row(value):
    if not isinstance(value, tuple) or len(value) == 0 or not is_key(value[0]):
        return False
    return all([is_value_or_empty(element) for element in value])


def entry_form(entry):
    """An entry in a form in which 1 and True are not equal."""
    return entry if entry == Layers.GONE else row_rank(entry)


def entry_forms(entries):
    return {key: entry_form(entries[key]) for key in entries}


class Layers:
    """For each label, rows or GONE at some keys of a table."""

    GONE = "gone"

    def __init__(self):
        self._layers = {}

    def put_row(self, label, row):
        check_label(label)
        if not is_row(row):
            raise InvalidRow(row)
        self._put_entry(label, row[0], row)

    def mark_gone(self, label, key):
        check_label(label)
        if not is_key(key):
            raise InvalidKey(key)
        self._put_entry(label, key, Layers.GONE)

    def _put_entry(self, label, key, entry):
        entries = self._layers.setdefault(str(label), {})
        entries[key] = entry

    def drop_entry(self, label, key):
        if self.entry(label, key) is None:
            raise NoEntry(key)
        entries = self._layers[str(label)]
        del entries[key]

    def entry(self, label, key):
        check_label(label)
        # 1 and True would be the same key of a dict
        if not is_key(key):
            return None
        return self._layers.get(str(label), {}).get(key)

    def layer(self, label):
        check_label(label)
        entries = self._layers.get(str(label), {})
        return {key: entries[key] for key in in_value_order(list(entries))}

    def overlay(self, label):
        check_label(label)
        counting = {}
        for lower in label.below():
            for key, entry in self.layer(lower).items():
                counting[key] = (entry, lower)
        for key in in_value_order(list(counting)):
            entry, lower = counting[key]
            if entry != Layers.GONE:
                yield (key, entry, lower)

    def clone(self):
        copied = Layers()
        copied._layers = {text: dict(entries) for text, entries in self._layers.items()}
        return copied

    def _forms(self):
        # a layer from which the last entry was dropped is like one that never was
        return {text: entry_forms(entries) for text, entries in self._layers.items() if entries}

    def __eq__(self, other):
        return isinstance(other, Layers) and self._forms() == other._forms()

    def __len__(self):
        return len([key for entries in self._layers.values() for key in entries])
