"""Replicas: databases at the cut of the records that were received of a keeper's journals."""

from aboveless.answers import answer
from aboveless.base import Base
from aboveless.errors import Behind, InvalidCount, InvalidLabel, OutOfSequence
from aboveless.queries import Query
from aboveless.recording import (
    copied_record, counting_records, is_base_record, last_number, number_of, recovered_base
)
from aboveless.values import is_count


def is_next(record, length):
    """Whether a record can be received behind so many."""
    if is_base_record(record):
        return number_of(record) > length
    return number_of(record) == length + 1


def deliver(replica, keeper, label, count):
    replica.require_below(label)
    keeper.require_label(label)
    if not is_count(count):
        raise InvalidCount(count)
    length = replica.length(label)
    durable = keeper.durable(label)
    # a base record is one that goes beyond what the replica has, too
    missing = [record for record in keeper.records(label) if length < number_of(record) <= durable]
    delivered = missing[:count]
    replica.receive(label, *delivered)
    return len(delivered)


class Replica:
    """What a label has received of the journals of the labels below it."""

    def __init__(self, label, *marks):
        # an empty database knows which labels there are
        self._empty = Base(*marks)
        self._empty.require_label(label)
        self._label = label
        self._received = {str(lower): [] for lower in label.below()}

    @property
    def label(self):
        return self._label

    @property
    def marks(self):
        return self._empty.marks

    def require_below(self, label):
        self._empty.require_label(label)
        if not label.is_below(self._label):
            raise InvalidLabel(label)

    def length(self, label):
        self._empty.require_label(label)
        return last_number(self._received.get(str(label), []))

    def receive(self, label, *records):
        self.require_below(label)
        length = self.length(label)
        for record in records:
            if not is_next(record, length):
                raise OutOfSequence(number_of(record))
            length = number_of(record)
        received = self._received[str(label)]
        received.extend([copied_record(record) for record in records])
        return length

    def _counting(self):
        """The dict from the texts of the labels to the records that make the cut."""
        lengths = {}
        counting = {}
        for lower in self._label.below():
            text = str(lower)
            counting[text] = counting_records(self._received[text], lengths)
            lengths[text] = last_number(counting[text])
        return counting

    def present_cut(self):
        counting = self._counting()
        return {text: last_number(counting[text]) for text in counting}

    def world(self, label):
        return recovered_base(self.marks, list(self._label.below()), self._counting()).world(label)

    def ask(self, label, text, *, at_least=None):
        self.require_below(label)
        present = self.present_cut()
        cut = {str(lower): present[str(lower)] for lower in label.below()}
        wanted = {} if at_least is None else at_least
        if any([cut[lower] < wanted.get(lower, 0) for lower in cut]):
            raise Behind(cut)
        query = Query(text)
        return (answer(self.world(label), query), cut)
