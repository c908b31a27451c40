"""Keepers: engines with a journal for each label, crashes and recovery."""

from aboveless.base import Base
from aboveless.errors import InvalidCount, InvalidLabel
from aboveless.recording import (
    base_record, copied_record, greatest_session, last_number, new_record, number_of, prefix_number, recovered_base
)
from aboveless.sessions import Engine
from aboveless.values import is_count
from aboveless.writes import Writer


class Journal:
    """The records of a label, and how many of them are safe."""

    def __init__(self):
        self._kept = []
        self._safe_number = 0

    def add_record(self, session, changes, seen):
        self._kept.append(new_record(self.last() + 1, session, changes, seen))

    def last(self):
        """The length: the number of the last record."""
        return last_number(self._kept)

    def make_safe(self):
        self._safe_number = self.last()

    def safe_number(self):
        return self._safe_number

    def told(self):
        return [copied_record(record) for record in self._kept]

    def prefix(self, most, lengths):
        """How many records, up to a number, have seen only these lengths."""
        return prefix_number(self._kept, most, lengths)

    def cut_to(self, number):
        """Keeps the records up to a number, which are safe then."""
        self._kept = [record for record in self._kept if number_of(record) <= number]
        self.make_safe()

    def next_session(self):
        """The number that follows the greatest session in the records."""
        greatest = greatest_session(self._kept)
        return 0 if greatest is None else greatest + 1

    def least_base(self):
        """The least number that a base record can have: that of the first record, which may be one already."""
        return number_of(self._kept[0]) if self._kept else 1

    def compact_to(self, label, number, base):
        """Replaces the records up to a number; base is an empty database."""
        replaced = [record for record in self._kept if number_of(record) <= number]
        behind = [record for record in self._kept if number_of(record) > number]
        self._kept = [base_record(base, label, replaced)] + behind


class Keeper(Engine):
    """An engine that appends a record to a journal for each commit."""

    def __init__(self, *marks):
        super().__init__(*marks)
        self._journals = {str(label): Journal() for label in self.labels()}

    def _journal(self, label):
        self.require_label(label)
        return self._journals[str(label)]

    def count_commit(self, label, session, changes):
        super().count_commit(label, session, changes)
        seen = {str(lower): self.length(lower) for lower in label.below() if lower != label}
        self._journals[str(label)].add_record(session, changes, seen)

    def flush(self, label):
        journal = self._journal(label)
        journal.make_safe()
        return journal.last()

    def length(self, label):
        return self._journal(label).last()

    def safe(self, label):
        return self._journal(label).safe_number()

    def durable(self, label):
        self.require_label(label)
        lengths = {}
        for lower in label.below():
            journal = self._journal(lower)
            lengths[str(lower)] = journal.prefix(journal.safe_number(), lengths)
        return lengths[str(label)]

    def records(self, label):
        for record in self._journal(label).told():
            yield record

    def arrive(self, label, table, rows):
        number = self.commits(label) + 1
        writer = Writer(self.base_copy(), label)
        keys = [writer.add_row_as(table, row, f"{label}.in.{number}.{at}") for at, row in enumerate(rows)]
        self.make_commit(label, None, writer.changes())
        return keys

    def _check_kept(self, kept):
        texts = [str(label) for label in self.labels()]
        for text in kept:
            if not isinstance(text, str) or text not in texts:
                raise InvalidLabel(text)
        for text in texts:
            if text in kept and not is_count(kept[text]):
                raise InvalidCount(kept[text])

    def crash(self, kept=None):
        asked = {} if kept is None else kept
        self._check_kept(asked)
        lengths = {}
        for label in self.labels():
            text = str(label)
            journal = self._journals[text]
            most = max(journal.safe_number(), asked.get(text, journal.last()))
            lengths[text] = journal.prefix(most, lengths)
        self._recover(lengths)
        return lengths

    def _recover(self, lengths):
        for text in lengths:
            self._journals[text].cut_to(lengths[text])
        journals = {text: self._journals[text].told() for text in lengths}
        sessions = {text: self._journals[text].next_session() for text in lengths}
        self.restart(recovered_base(self.marks, self.labels(), journals), lengths, sessions)

    def compact(self, label, count):
        journal = self._journal(label)
        if not is_count(count) or not journal.least_base() <= count <= self.durable(label):
            raise InvalidCount(count)
        marks = self.marks
        journal.compact_to(label, count, Base(*marks))
