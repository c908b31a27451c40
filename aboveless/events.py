"""Events of histories: which values are events."""

from aboveless.labels import is_label_text
from aboveless.values import is_count


def is_label_string(value):
    """Whether a value is the text of a label, of whatever marks."""
    return isinstance(value, str) and is_label_text(value)


def is_string(value):
    return isinstance(value, str)


def is_list(value):
    return isinstance(value, (list, tuple))


def is_kept(value):
    """Whether a value is a dict from texts of labels to counts."""
    if not isinstance(value, dict):
        return False
    return all([is_label_string(text) and is_count(value[text]) for text in value])


def are_rows(value):
    return is_list(value) and all([is_list(row) for row in value])


CHECKS = {
    "label": is_label_string, "string": is_string, "kept": is_kept, "rows": are_rows, "count": is_count,
}
# what stands behind the word of an event
FORMS = {
    "line": ("string", "string"), "crash": ("kept",), "deliver": ("count", "label", "count"),
    "read": ("count", "string", "string"), "arrive": ("label", "string", "rows"),
}


def is_of_kind(kind, value):
    check = CHECKS[kind]
    return check(value)


def is_event(value):
    if not isinstance(value, tuple) or len(value) == 0 or not isinstance(value[0], str) or value[0] not in FORMS:
        return False
    kinds = FORMS[value[0]]
    if len(value) != 1 + len(kinds):
        return False
    return all([is_of_kind(kind, part) for kind, part in zip(kinds, value[1:])])
