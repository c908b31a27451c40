"""Records of journals: what they have seen, which of them count, and base records."""

from aboveless.base import Base


def new_record(number, session, changes, seen):
    return ("record", number, session, list(changes), dict(seen))


def copied_record(record):
    """A record whose list and dict are new."""
    word, number, session, changes, seen = record
    return (word, number, session, list(changes), dict(seen))


def number_of(record):
    """The number of a record, or of the last one that a base record replaces."""
    return record[1]


def is_base_record(record):
    return record[0] == "base"


def last_number(kept):
    """The number of the last of some records; 0 if there is none."""
    return number_of(kept[-1]) if kept else 0


def greatest_session(kept):
    """The greatest session in some records; None if there is none."""
    return max([record[2] for record in kept if record[2] is not None], default=None)


def has_seen_only(record, lengths):
    """Whether a record has seen no more records than these; a dict from texts of labels to lengths."""
    seen = record[4]
    return all([seen[text] <= lengths[text] for text in seen])


def prefix_number(kept, most, lengths):
    """The last number of the longest prefix, up to a number, of records that have seen only these lengths."""
    number = 0
    for record in kept:
        if number_of(record) > most or not has_seen_only(record, lengths):
            return number
        number = number_of(record)
    return number


def counting_records(received, lengths):
    """The records that give the greatest number of a cut, among those that a replica received of a journal.

    They are the records from the first one, or from a base record, on, as far as all of them
    have seen only these lengths.
    """
    found = []
    whole = []
    has_seen_more = False
    for record in received:
        if is_base_record(record):
            whole = []
            has_seen_more = False
        has_seen_more = has_seen_more or not has_seen_only(record, lengths)
        if not has_seen_more:
            whole = whole + [record]
            found = whole
    return found


def apply_records(base, label, kept):
    for record in kept:
        base.apply(label, record[3])


def base_record(base, label, kept):
    """The base record in the place of these records, the first ones of the journal of a label.

    base is an empty database with the marks of the journal.
    """
    apply_records(base, label, kept)
    seen = {text: max([record[4][text] for record in kept]) for text in kept[0][4]}
    return ("base", last_number(kept), greatest_session(kept), base.own_changes(label), seen)


def recovered_base(marks, labels, journals):
    """The database that the records of journals make; journals is a dict from texts of labels to records."""
    base = Base(*marks)
    for label in labels:
        apply_records(base, label, journals[str(label)])
    return base
