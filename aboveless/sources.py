"""How tables and views are written: as a name, or as an ID."""

from aboveless.labels import is_label_text
from aboveless.values import is_name


def is_source(value):
    """Whether a value is the text of a source: a name, or a name, `:` and the text of a label."""
    if not isinstance(value, str):
        return False
    name, colon, label = value.partition(":")
    return is_name(name) and (colon == "" or is_label_text(label))
