"""What a remove takes away, and what it empties."""

from aboveless.errors import NoRow
from aboveless.sources import place_rank
from aboveless.values import value_rank


def links_by(world, rule):
    """What refers by the standing references with this rule, in catalog order, then by keys.

    Each is a tuple (reference, place of the row, place to which it refers).
    """
    found = []
    for kind, name, label in world.entries("reference"):
        reference = world.entry(kind, name, label)
        if reference.rule == rule:
            at = world.rules_of(reference.table).names.index(reference.column)
            for key, row, lower in world.rows(reference.table):
                if row[at] is not None:
                    found.append((reference, (reference.table, key), (reference.target, row[at])))
    return found


def removed_places(world, place):
    """The dict with the place of a row, and of all rows that go with it."""
    referring = {}
    for reference, referrer, target in links_by(world, "cascade"):
        referrers = referring.setdefault(target, [])
        referrers.append(referrer)
    found = {place: True}
    waiting = [place]
    while waiting:
        target = waiting.pop()
        for referrer in referring.get(target, []):
            if referrer not in found:
                found[referrer] = True
                waiting.append(referrer)
    return found


def restricting(world, removed):
    """The tuple (reference, key) of the first row that forbids to remove these places, or None."""
    for reference, referrer, target in links_by(world, "restrict"):
        if target in removed and referrer not in removed:
            return (reference, referrer[1])
    return None


def emptied_places(world, removed):
    """The dict from the places of the rows that a remove empties to the dicts of their columns."""
    found = {}
    for reference, referrer, target in links_by(world, "empty"):
        if target in removed and referrer not in removed:
            columns = found.setdefault(referrer, {})
            columns[reference.column] = True
    return found


def standing_place(world, text, key):
    """The tuple (ID, key) of a standing row."""
    source = world.table_id(text)
    if world.standing_row(source, key) is None:
        raise NoRow(key)
    return (source, key)


def remove_set(world, text, key):
    removed = removed_places(world, standing_place(world, text, key))
    return sorted(removed, key=place_rank)


def emptied(world, text, key):
    places = emptied_places(world, removed_places(world, standing_place(world, text, key)))
    found = [(source, of_row, column) for source, of_row in places for column in places[(source, of_row)]]
    return sorted(found, key=lambda told: (told[0], value_rank(told[1]), told[2]))
