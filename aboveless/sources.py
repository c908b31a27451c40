"""How tables and views are written: as a name, or as an ID."""

from aboveless.labels import Label, is_label_text
from aboveless.values import is_name, value_rank


def is_source(value):
    """Whether a value is the text of a source: a name, or a name, `:` and the text of a label."""
    if not isinstance(value, str):
        return False
    name, colon, label = value.partition(":")
    return is_name(name) and (colon == "" or is_label_text(label))


def id_of(name, label):
    """The ID of a table or view of this name that was made at this label."""
    return f"{name}:{label}"


def is_id_below(value, label):
    """Whether a value is an ID whose label is below this one."""
    if not is_source(value) or ":" not in value:
        return False
    name, colon, text = value.partition(":")
    return Label.of_text(text).is_below(label)


def place_rank(place):
    """What tuples of an ID and a key are sorted by: the IDs as strings, then the order of keys."""
    source, key = place
    return (source, value_rank(key))
