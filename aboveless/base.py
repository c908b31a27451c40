"""The database: the catalogs and the layers of all labels."""

from aboveless.entries import Check, Index, Reference, Right, Table, View, entry_of
from aboveless.errors import (
    InUse, InvalidEntry, InvalidLabel, InvalidSource, NameTaken, UnknownEntry, WouldSuspend
)
from aboveless.labels import Label, check_label
from aboveless.layers import Layers
from aboveless.sources import id_of, is_id_below
from aboveless.standing import check_sorts
from aboveless.worlds import World, check_kind, lost_rows

# tables and views have their names together
SOURCE_KINDS = ("table", "view")


def bound_in(world, entry):
    """The entry with the IDs that its sources have in a world."""
    found = {}
    for source in entry.sources():
        if entry.KIND == "view":
            found[source] = world.source_id(source)
        else:
            found[source] = world.table_id(source)
    return entry.bound(found)


def share_names(kind, other):
    return kind == other or (kind in SOURCE_KINDS and other in SOURCE_KINDS)


class Base:
    """A database without judgement of rows; entries are judged when they are made or dropped."""

    def __init__(self, *marks):
        self._marks = Label(*marks).marks
        self._catalogs = {}
        self._layers = {}

    @property
    def marks(self):
        return self._marks

    def require_label(self, label):
        check_label(label)
        if not label.is_below(Label(*self._marks)):
            raise InvalidLabel(label)

    def _check_id(self, label, source):
        self.require_label(label)
        if not is_id_below(source, label):
            raise InvalidSource(source)

    def _own_entries(self, label):
        return self._catalogs.get(str(label), [])

    def _entries_below(self, label):
        return [(lower, entry) for lower in label.below() for entry in self._own_entries(lower)]

    def _overlays(self, label):
        return {source: list(layers.overlay(label)) for source, layers in self._layers.items()}

    def world(self, label):
        self.require_label(label)
        return World(label, self._entries_below(label), self._overlays(label))

    def entries(self, label):
        self.require_label(label)
        return [entry.told() for entry in self._own_entries(label)]

    def define(self, label, entry):
        self.require_label(label)
        if not isinstance(entry, (Table, View, Check, Reference, Index, Right)):
            raise InvalidEntry(entry)
        for other in self._own_entries(label):
            if other.name == entry.name and share_names(other.KIND, entry.KIND):
                raise NameTaken(entry.name)
        before = self.world(label)
        made = bound_in(before, entry)
        check_sorts(made, {source: before.columns(source) for source in made.sources()})
        after = World(label, self._entries_below(label) + [(label, made)], self._overlays(label))
        for source, key, lower in lost_rows(before, after):
            if lower == label:
                raise WouldSuspend(source, key)
        self._add_entry(label, made)

    def _add_entry(self, label, entry):
        # a copy, since a caller may keep the entry that it passed
        self._catalogs[str(label)] = self._own_entries(label) + [entry_of(entry.told())]

    def drop(self, label, kind, name):
        self.require_label(label)
        check_kind(kind)
        if not isinstance(name, str) or (kind, name) not in [(own.KIND, own.name) for own in self._own_entries(label)]:
            raise UnknownEntry(name)
        if kind in SOURCE_KINDS:
            for other in self._own_entries(label):
                if id_of(name, label) in other.sources():
                    raise InUse(other.KIND, other.name)
        self._take_entry(label, kind, name)

    def _take_entry(self, label, kind, name):
        kept = [entry for entry in self._own_entries(label) if (entry.KIND, entry.name) != (kind, name)]
        self._catalogs[str(label)] = kept
        if kind == "table":
            layers = self._layers_of(id_of(name, label))
            for key in list(layers.layer(label)):
                layers.drop_entry(label, key)

    def _layers_of(self, source):
        """The layers of a table; new ones, which are not kept, where there are none."""
        return self._layers.get(source, Layers())

    def _kept_layers(self, source):
        return self._layers.setdefault(source, Layers())

    def put_row(self, label, source, row):
        self._check_id(label, source)
        self._kept_layers(source).put_row(label, row)

    def mark_gone(self, label, source, key):
        self._check_id(label, source)
        self._kept_layers(source).mark_gone(label, key)

    def drop_entry(self, label, source, key):
        self._check_id(label, source)
        self._layers_of(source).drop_entry(label, key)

    def layer(self, label, source):
        self._check_id(label, source)
        return self._layers_of(source).layer(label)

    def layer_entry(self, label, source, key):
        """The row, "gone" or None at any key of the own layer."""
        return self._layers_of(source).entry(label, key)

    def has_entry_below(self, label, source, key):
        """Whether the layer of a label strictly below has an entry for a key."""
        layers = self._layers_of(source)
        return any([layers.entry(lower, key) is not None for lower in label.below() if lower != label])

    def apply(self, label, changes):
        self.require_label(label)
        # on a copy, so that nothing has changed if one of them is none
        changed = self.clone()
        for change in changes:
            changed.make_change(label, change)
        self._catalogs = changed._catalogs
        self._layers = changed._layers

    def make_change(self, label, change):
        """Performs one change at the label, without judgement."""
        word = change[0]
        if word == "define":
            self._add_entry(label, entry_of(change[1]))
        elif word == "drop":
            self._take_entry(label, change[1], change[2])
        elif word == "put":
            self.put_row(label, change[1], change[2])
        elif word == "gone":
            self.mark_gone(label, change[1], change[2])
        elif self.layer_entry(label, change[1], change[2]) is not None:
            self.drop_entry(label, change[1], change[2])

    def own_changes(self, label):
        """The changes that, performed on nothing, give the own catalog and the own layers of a label."""
        changes = [("define", told) for told in self.entries(label)]
        for source in sorted(self._layers):
            for key, entry in self._layers[source].layer(label).items():
                changes.append(("gone", source, key) if entry == Layers.GONE else ("put", source, entry))
        return changes

    def clone(self):
        copied = Base(*self._marks)
        copied._catalogs = {text: list(entries) for text, entries in self._catalogs.items()}
        copied._layers = {source: layers.clone() for source, layers in self._layers.items()}
        return copied

    def _forms(self):
        # what became empty is like what never was
        catalogs = {text: [entry.told() for entry in entries] for text, entries in self._catalogs.items() if entries}
        filled = {source: layers for source, layers in self._layers.items() if len(layers) > 0}
        return (self._marks, catalogs, filled)

    def __eq__(self, other):
        return isinstance(other, Base) and self._forms() == other._forms()
