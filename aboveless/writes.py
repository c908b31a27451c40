"""Writes: what a writer changes at its own label, judged in its own world."""

from aboveless.errors import (
    Broken, InvalidCount, Missing, NoRow, Restricted, Taken, UnknownColumn, Waiting, WouldSuspend, WrongValues
)
from aboveless.layers import Layers
from aboveless.rules import emptied_places, removed_places, restricting, standing_place
from aboveless.sources import place_rank
from aboveless.values import is_count
from aboveless.worlds import lost_rows


def check_row(world, source, row):
    """Raises what forbids a row that fits: a false check, or a reference to what is not there."""
    rules = world.rules_of(source)
    found = rules.false_check(row)
    if found is not None:
        label, check = found
        raise Broken(check.name, row[0])
    for label, reference, key in rules.referred(row):
        refers_to_itself = (reference.target, key) == (source, row[0])
        if not refers_to_itself and world.standing_row(reference.target, key) is None:
            raise Missing(reference.name, key)


def check_columns(names, columns):
    """Raises the least of these columns that a change cannot have; the first name is the key."""
    for column in sorted(columns):
        if column not in names[1:]:
            raise UnknownColumn(column)


def standing_rows(world):
    """The tuples (place, row) of the rows of a world: tables in catalog order, then keys."""
    return [((source, key), row) for source in world.tables() for key, row, label in world.rows(source)]


def emptied_row(names, row, columns):
    return tuple([None if name in columns else value for name, value in zip(names, row)])


def emptied_rows(world, columns):
    """The tuples (place, row as it would be) of the rows that get None; columns is a dict from places."""
    return [
        (place, emptied_row(world.rules_of(place[0]).names, row, columns[place]))
        for place, row in standing_rows(world) if place in columns
    ]


def takes_key(rules, values):
    """Whether the row of these values gets a key that is made for it."""
    return len(values) > 0 and values[0] is None and rules.column_list[0][1] == "text"


class Writer:
    """Writes to a database at one label."""

    def __init__(self, base, label, *, session=0, given=0):
        base.require_label(label)
        if not is_count(session):
            raise InvalidCount(session)
        if not is_count(given):
            raise InvalidCount(given)
        self._base = base
        self._label = label
        self._session = session
        self._given = given
        self._changes = []

    @property
    def given(self):
        return self._given

    def own_world(self):
        return self._base.world(self._label)

    def _make(self, changes):
        self._base.apply(self._label, changes)
        self._changes.extend(list(changes))

    def _number_key(self, number):
        return f"{self._label}.{self._session}.{number}"

    def _free_number(self, world, source):
        """The first number, from the one reached on, whose key is not taken."""
        number = self._given
        layer = self._base.layer(self._label, source)
        while self._number_key(number) in layer or world.standing_row(source, self._number_key(number)) is not None:
            number += 1
        return number

    def add_row(self, table, values):
        return self.add_row_as(table, values, None)

    def add_row_as(self, table, values, key):
        """Inserts a row; if a key is made for it, this is the key that is passed, or a number for None."""
        world = self.own_world()
        source = world.table_id(table)
        rules = world.rules_of(source)
        reached = self._given
        row = tuple(values)
        if takes_key(rules, row) and key is None:
            number = self._free_number(world, source)
            row = (self._number_key(number),) + row[1:]
            reached = number + 1
        elif takes_key(rules, row):
            row = (key,) + row[1:]
        if not rules.fits(row):
            raise WrongValues(tuple(values))
        self._check_key(world, source, row[0])
        check_row(world, source, row)
        self._make([("put", source, row)])
        self._given = reached
        return row[0]

    def _check_key(self, world, source, key):
        if world.standing_row(source, key) is not None:
            raise Taken(key)
        own = self._base.layer_entry(self._label, source, key)
        if own is not None and own != Layers.GONE:
            raise Waiting(key)

    def change_row(self, table, key, columns):
        world = self.own_world()
        source = world.table_id(table)
        row = world.standing_row(source, key)
        if row is None:
            raise NoRow(key)
        rules = world.rules_of(source)
        check_columns(rules.names, columns)
        if len(columns) == 0:
            return
        changed = tuple([columns.get(name, value) for name, value in zip(rules.names, row)])
        if not rules.fits(changed):
            raise WrongValues(tuple([(name, columns[name]) for name in rules.names if name in columns]))
        check_row(world, source, changed)
        self._make([("put", source, changed)])

    def take_row(self, table, key):
        world = self.own_world()
        source = world.table_id(table)
        removed = removed_places(world, standing_place(world, source, key))
        found = restricting(world, removed)
        if found is not None:
            reference, of_row = found
            raise Restricted(reference.name, of_row)
        kept = emptied_rows(world, emptied_places(world, removed))
        for place, row in kept:
            broken = world.rules_of(place[0]).false_check(row)
            if broken is not None:
                label, check = broken
                raise Broken(check.name, row[0])
        places = [place for place, row in standing_rows(world) if place in removed]
        taken = [self._taking(lower, of_row) for lower, of_row in places]
        self._make(taken + [("put", place[0], row) for place, row in kept])
        return sorted(removed, key=place_rank)

    def _taking(self, source, key):
        """The change that takes a row of the own world away."""
        word = "gone" if self._base.has_entry_below(self._label, source, key) else "clear"
        return (word, source, key)

    def revert_row(self, table, key):
        world = self.own_world()
        source = world.table_id(table)
        reverted = self._base.clone()
        reverted.drop_entry(self._label, source, key)
        behind = reverted.world(self._label)
        if (source, key) in [(lost[0], lost[1]) for lost in behind.suspended()]:
            raise WouldSuspend(source, key)
        for other, of_row, label in lost_rows(world, behind):
            if (other, of_row) != (source, key):
                raise WouldSuspend(other, of_row)
        self._make([("clear", source, key)])

    def define(self, entry):
        self._base.define(self._label, entry)
        self._changes.append(("define", self._base.entries(self._label)[-1]))

    def drop(self, kind, name):
        self._base.drop(self._label, kind, name)
        self._changes.append(("drop", kind, name))

    def changes(self):
        return list(self._changes)
