"""Index trees: the entries of the rows of all labels, read label by label."""

from aboveless.errors import InvalidKey, NoEntry
from aboveless.labels import check_label
from aboveless.values import in_value_order, is_key, sort_of, value_rank


def check_value(value):
    if sort_of(value) is None:
        raise InvalidKey(value)


def check_key(key):
    if not is_key(key):
        raise InvalidKey(key)


class IndexTree:
    """A set of entries (label, value, key); what is read at a label is what is below it."""

    def __init__(self):
        # from texts of labels to dicts from ranks of values to dicts from keys to the value:
        # reading goes to the labels below alone, so it does not pass by what is elsewhere
        self._values = {}

    def _keys_at(self, label, value):
        """The dict whose keys are those of the entries with a value at this very label."""
        return self._values.get(str(label), {}).get(value_rank(value), {})

    def put_entry(self, label, value, key):
        check_label(label)
        check_value(value)
        check_key(key)
        values = self._values.setdefault(str(label), {})
        keys = values.setdefault(value_rank(value), {})
        keys[key] = value

    def take_entry(self, label, value, key):
        check_label(label)
        check_value(value)
        check_key(key)
        keys = self._keys_at(label, value)
        if key not in keys:
            raise NoEntry(key)
        del keys[key]

    def entries_at(self, label, value):
        check_label(label)
        check_value(value)
        found = [(key, lower) for lower in label.below() for key in self._keys_at(lower, value)]
        # the labels are in their order already
        return sorted(found, key=lambda entry: value_rank(entry[0]))

    def steps(self, label, value):
        return 1 + len(self.entries_at(label, value))

    def different(self, label):
        check_label(label)
        found = {}
        for lower in label.below():
            for rank, keys in self._values.get(str(lower), {}).items():
                for key in keys:
                    found[rank] = keys[key]
        return in_value_order(list(found.values()))

    def __len__(self):
        return len([key for values in self._values.values() for keys in values.values() for key in keys])
