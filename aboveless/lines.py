"""Lines: texts with one command, and what they tell."""

from aboveless.entries import KINDS, made_entry
from aboveless.errors import InvalidLine
from aboveless.labels import Label, is_label_text
from aboveless.sources import is_source
from aboveless.texts import split_text
from aboveless.values import is_integer_text, is_name, is_quoted_text, is_sort, is_value_text, read_value

# how columns are written that must not, and that may be empty
EMPTINESS = {"filled": False, "maybe": True}


def require(holds, part):
    if not holds:
        raise InvalidLine(part)


def is_count_text(text):
    """Whether a string is the text of a count of at most thirty digits."""
    return is_integer_text(text) and not text.startswith("-")


def read_source(part):
    require(is_source(part), part)
    return part


def read_name(part):
    require(is_name(part), part)
    return part


def read_word(part):
    require(not part.startswith("'") and not part.startswith("("), part)
    return part


def read_part(part):
    return part


def read_key(part):
    require(is_integer_text(part) or is_quoted_text(part), part)
    return read_value(part)


def read_value_part(part):
    require(part == "empty" or is_value_text(part), part)
    return read_value(part)


def read_count(part):
    require(is_count_text(part), part)
    return int(part)


def read_label(part):
    require(is_label_text(part), part)
    return Label.of_text(part)


def inner_parts(part, many):
    """The parts of a part in parentheses, which must be so many."""
    parts = split_text(part)
    require(parts is not None and len(parts) == many, part)
    return parts


def read_pair(part):
    """A column and its value."""
    name, value = inner_parts(part, 2)
    return (read_name(name), read_value_part(value))


def read_column(part):
    """The tuple (name, sort, may_be_empty) of a column of a table."""
    name, sort, word = inner_parts(part, 3)
    require(is_sort(sort) and word in EMPTINESS, part)
    return (read_name(name), sort, EMPTINESS[word])


def read_row(part):
    """The list of the values of a row."""
    parts = split_text(part)
    require(bool(parts) and parts[0] == "row", part)
    return [read_value_part(value) for value in parts[1:]]


READERS = {
    "source": read_source, "name": read_name, "word": read_word, "part": read_part, "key": read_key,
    "value": read_value_part, "count": read_count, "label": read_label, "pair": read_pair, "column": read_column,
    "row": read_row,
}
# what stands behind the word of a command
HEADS = {
    "insert": ("source",), "change": ("source", "key"), "remove": ("source", "key"), "revert": ("source", "key"),
    "table": ("name",), "view": ("name", "part"), "check": ("name", "source", "part"),
    "reference": ("name", "source", "name", "source", "word"), "index": ("name", "source", "name"),
    "right": ("name", "name", "name"), "drop": ("word", "name"),
    "ask": ("part",), "measure": ("part",), "within": ("count", "part"), "explain": ("part",),
    "why": ("count", "part"), "suspended": (),
    "begin": (), "commit": (), "abandon": (), "refresh": ("source",), "forget": ("source",), "flush": (),
    "compact": ("count",), "offer": ("source", "label"), "confirm": ("count",),
}
# what follows then: the kind of these parts, how many they are at least and at most
TAILS = {"insert": ("value", 0, None), "change": ("pair", 0, None), "table": ("column", 1, 6), "offer": ("row", 1, 6)}


def read_as(kind, part):
    reader = READERS[kind]
    return reader(part)


def read_tail(word, parts):
    kind, least, most = TAILS[word]
    require(least <= len(parts) and (most is None or len(parts) <= most), word)
    return [read_as(kind, part) for part in parts]


def read_line(text):
    """The tuple of the word of a line, and of what stands behind it; what may be repeated is one list at the end."""
    require(isinstance(text, str), text)
    parts = split_text(text)
    require(bool(parts) and parts[0] in HEADS, text)
    word = parts[0]
    kinds = HEADS[word]
    head, tail = parts[1:1 + len(kinds)], parts[1 + len(kinds):]
    require(len(head) == len(kinds), text)
    told = (word,) + tuple([read_as(kind, part) for kind, part in zip(kinds, head)])
    if word not in TAILS:
        require(tail == [], text)
        return told
    values = read_tail(word, tail)
    if word == "change":
        names = [name for name, value in values]
        require(len(set(names)) == len(names), text)
    return told + (values,)


def session_command(told):
    """The command of a session that a line tells; errors of the entry that it makes."""
    word = told[0]
    if word in KINDS:
        return ("define", made_entry(word, told[1:]))
    if word == "change":
        return (word, told[1], told[2], dict(told[3]))
    if word == "measure":
        return (word, told[1], None)
    if word == "within":
        return ("measure", told[2], told[1])
    if word == "why":
        return (word, told[2], told[1])
    return told
