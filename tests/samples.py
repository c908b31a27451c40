"""Small databases for the tests."""

from aboveless.base import Base
from aboveless.entries import Table
from aboveless.labels import Label

LOW = Label()
A = Label("a")
B = Label("b")
AB = Label("a", "b")


def table(name, *columns):
    """A table; columns are written as name:sort, with ? behind those that may be empty."""
    told = []
    for column in columns:
        word, sort = column.rstrip("?").split(":")
        told.append((word, sort, column.endswith("?")))
    return Table(name, told)


def base_of(*entries, marks=("a", "b")):
    """A database with entries, each an entry for the least label or a tuple (label, entry)."""
    made = Base(*marks)
    for entry in entries:
        label, defined = entry if isinstance(entry, tuple) else (LOW, entry)
        made.define(label, defined)
    return made


def put(base, *rows):
    """Puts rows, tuples (label, ID, row), without judgement; returns the database."""
    for label, source, row in rows:
        base.put_row(label, source, row)
    return base


def state(base):
    """All that a database tells, in a form that can be compared."""
    labels = list(Label(*base.marks).below())
    entries = [base.entries(label) for label in labels]
    sources = sorted({f"{told[1]}:{label}" for label, told in zip(labels, entries) for told in told} | set(IDS))
    layers = [
        (str(label), source, base.layer(label, source)) for label in labels for source in sources
        if Label.of_text(source.split(":")[1]).is_below(label)
    ]
    return (base.marks, entries, layers)


IDS = [f"{name}:{label}" for name in ("t", "u", "ward", "bed") for label in ("-", "a", "b", "a+b")]


def kept(world, source):
    """The standing rows of a table without their keys: tuples (row, text of the label)."""
    return [(row, str(label)) for key, row, label in world.rows(source)]


def lost(world):
    """The suspended rows, with the texts of labels."""
    return [(source, key, str(label), number, reason) for source, key, label, number, reason in world.suspended()]
