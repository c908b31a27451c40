"""Worlds: what stands for a label, and what is suspended."""

from aboveless.entries import KINDS
from aboveless.errors import UnknownEntry, UnknownKind, UnknownSource
from aboveless.judging import rules_of_tables, suspended_places
from aboveless.labels import Label
from aboveless.sources import id_of
from aboveless.standing import judge_entries
from aboveless.values import is_key, row_rank


def check_kind(kind):
    if not isinstance(kind, str) or kind not in KINDS:
        raise UnknownKind(kind)


def lost_rows(before, after):
    """The tuples (ID, key, label) of the rows of a world that do not stand in another one.

    They are in the sequence of the tables in catalog order, then of the keys.
    """
    kept = {(source, key): True for source in after.tables() for key, row, label in after.rows(source)}
    rows = [(source, key, label) for source in before.tables() for key, row, label in before.rows(source)]
    return [(source, key, label) for source, key, label in rows if (source, key) not in kept]


class World:
    """What stands in the world of a label; it does not change.

    entries are the tuples (label, entry) of the catalog in its order, overlays leads from IDs
    to the lists of tuples (key, row, label).
    """

    def __init__(self, label, entries, overlays):
        self._label = label
        columns, reasons = judge_entries(entries)
        judged = list(zip(entries, reasons))
        self._columns = columns
        self._standing = [
            (id_of(entry.name, lower), lower, entry) for (lower, entry), reason in judged if reason is None
        ]
        self._left_out = [
            (entry.KIND, entry.name, lower, reason) for (lower, entry), reason in judged if reason is not None
        ]
        self._found = {(entry.KIND, entry.name, str(lower)): entry for source, lower, entry in self._standing}
        self._queries = {source: entry.query for source, lower, entry in self._standing if entry.KIND == "view"}
        self._rules = rules_of_tables(self._standing)
        self._meanings = {}
        for source, lower, entry in self._standing:
            if entry.KIND in ("table", "view"):
                self._meanings[entry.name] = source
                self._meanings[source] = source
        self._judge_rows(overlays)

    def _judge_rows(self, overlays):
        lost = suspended_places(self._rules, overlays)
        self._kept = {source: {} for source in self._rules}
        self._lost = []
        for source in sorted(overlays):
            for key, row, label in overlays[source]:
                if (source, key) in lost:
                    number, reason = lost[(source, key)]
                    self._lost.append((source, key, label, number, reason))
                else:
                    kept = self._kept[source]
                    kept[key] = (row, label)

    @property
    def label(self):
        return self._label

    def entries(self, kind=None):
        if kind is not None:
            check_kind(kind)
        standing = [(entry.KIND, entry.name, label) for source, label, entry in self._standing]
        return [told for told in standing if kind is None or told[0] == kind]

    def suspended_entries(self):
        return list(self._left_out)

    def entry(self, kind, name, label):
        if not isinstance(kind, str) or not isinstance(name, str) or not isinstance(label, Label):
            raise UnknownEntry(name)
        if (kind, name, str(label)) not in self._found:
            raise UnknownEntry(name)
        return self._found[(kind, name, str(label))]

    def tables(self):
        return list(self._rules)

    def source_id(self, text):
        if not isinstance(text, str) or text not in self._meanings:
            raise UnknownSource(text)
        return self._meanings[text]

    def table_id(self, text):
        """The ID of the table that the text means."""
        source = self.source_id(text)
        if source not in self._rules:
            raise UnknownSource(text)
        return source

    def view_id(self, text):
        """The ID of the view that the text means."""
        source = self.source_id(text)
        if source not in self._queries:
            raise UnknownSource(text)
        return source

    def view_query(self, source):
        """The bound query of the standing view with this ID."""
        return self._queries[source]

    def rules_of(self, text):
        """What the rows of the table that the text means must satisfy."""
        return self._rules[self.table_id(text)]

    def columns(self, text):
        return list(self._columns[self.source_id(text)])

    def rows(self, text):
        kept = self._kept[self.table_id(text)]
        for key in kept:
            row, label = kept[key]
            yield (key, row, label)

    def standing_row(self, text, key):
        kept = self._kept[self.table_id(text)]
        # 1 and True would be the same key of a dict
        if not is_key(key) or key not in kept:
            return None
        return kept[key][0]

    def suspended(self):
        return list(self._lost)

    def _forms(self):
        """What is compared, in a form in which 1 and True are not equal."""
        entries = [(str(label), entry.told()) for source, label, entry in self._standing]
        left_out = [(kind, name, str(label), reason) for kind, name, label, reason in self._left_out]
        places = [(source, key) for source in self._kept for key in self._kept[source]]
        kept = [self._kept[source][key] for source, key in places]
        rows = [(row_rank(row), str(label)) for row, label in kept]
        lost = [(source, key, str(label), number, reason) for source, key, label, number, reason in self._lost]
        return (str(self._label), entries, left_out, places, rows, lost)

    def __eq__(self, other):
        return isinstance(other, World) and self._forms() == other._forms()

    def __len__(self):
        return len([key for kept in self._kept.values() for key in kept])
