"""Rounded counts, and what of a world estimates rest on."""

from aboveless.errors import InvalidCount
from aboveless.values import is_count, value_rank


def rounded(count):
    if not is_count(count):
        raise InvalidCount(count)
    if count == 0:
        return 0
    power = 1
    while power < count:
        power *= 2
    return power


def indexed_columns(world, source):
    """The names of the columns of a table that have a standing index, in their sequence."""
    indexes = [world.entry(kind, name, label) for kind, name, label in world.entries("index")]
    indexed = [index.column for index in indexes if index.table == source]
    return [name for name, sort, may_be_empty in world.columns(source) if name in indexed]


def different_values(rows, at):
    """How many different values the rows have at a position, without the empty one."""
    return len(set([value_rank(row[at]) for row in rows if row[at] is not None]))


def table_statistics(world, source):
    rows = [row for key, row, label in world.rows(source)]
    names = [name for name, sort, may_be_empty in world.columns(source)]
    indexed = indexed_columns(world, source)
    return (len(rows), {name: different_values(rows, names.index(name)) for name in indexed})


def statistics(world):
    found = {}
    for source in world.tables():
        many, different = table_statistics(world, source)
        found[source] = (rounded(many), {name: rounded(different[name]) for name in different})
    return found
