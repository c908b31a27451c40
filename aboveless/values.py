"""Names, integers, counts and values: what they are, their texts and their order."""

from aboveless.errors import InvalidKey, InvalidText

LETTERS = "abcdefghijklmnopqrstuvwxyz"
DIGITS = "0123456789"
SORTS = ("int", "text", "truth")
KEY_SORTS = ("int", "text")
MOST_LETTERS = 8
MOST_DIGITS = 30
MOST_CHARACTERS = 60


def is_name(value):
    if not isinstance(value, str) or len(value) > MOST_LETTERS:
        return False
    return value != "" and all([letter in LETTERS for letter in value])


def is_integer(value):
    return isinstance(value, int) and not isinstance(value, bool)


def is_count(value):
    return is_integer(value) and value >= 0


def is_sort(value):
    return isinstance(value, str) and value in SORTS


def sort_of(value):
    """The sort of a value; None for what is no value, and for the empty one."""
    if isinstance(value, bool):
        return "truth"
    if isinstance(value, int):
        return "int" if abs(value) < 10 ** 30 else None
    if isinstance(value, str) and len(value) <= MOST_CHARACTERS and "'" not in value:
        return "text"
    return None


def is_value(sort, value, *, may_be_empty=False):
    if not is_sort(sort):
        return False
    if value is None:
        return bool(may_be_empty)
    return sort_of(value) == sort


def is_key(value):
    return sort_of(value) in KEY_SORTS


def is_value_or_empty(value):
    return value is None or sort_of(value) is not None


def value_text(value):
    if value is None:
        return "empty"
    sort = sort_of(value)
    if sort is None:
        raise InvalidKey(value)
    if sort == "truth":
        return "true" if value else "false"
    if sort == "text":
        return f"'{value}'"
    return str(value)


def is_integer_text(text):
    """Whether a string is the text of a value of the sort int."""
    if text == "0":
        return True
    # int() would also take signs, spaces and underlines, and fail for very long strings
    digits = text[1:] if text.startswith("-") else text
    if digits == "" or digits.startswith("0") or len(digits) > MOST_DIGITS:
        return False
    return all([digit in DIGITS for digit in digits])


def is_quoted_text(text):
    """Whether a string is the text of a value of the sort text."""
    if len(text) < 2 or not text.startswith("'") or not text.endswith("'"):
        return False
    return sort_of(text[1:-1]) == "text"


def is_value_text(text):
    """Whether a string is the text of a value, the empty one left out."""
    return text in ("true", "false") or is_integer_text(text) or is_quoted_text(text)


def read_value(text):
    if not isinstance(text, str):
        raise InvalidText("string")
    if text == "empty":
        return None
    if not is_value_text(text):
        raise InvalidText("value")
    if text in ("true", "false"):
        return text == "true"
    return text[1:-1] if text.startswith("'") else int(text)


def value_rank(value):
    """What values are sorted by, and compared by where 1 and True are not the same."""
    if value is None:
        return (0, 0)
    if isinstance(value, bool):
        return (1, int(value))
    if isinstance(value, int):
        return (2, value)
    return (3, value)


def row_rank(row):
    return tuple([value_rank(value) for value in row])


def in_value_order(values):
    for value in values:
        if not is_value_or_empty(value):
            raise InvalidKey(value)
    return sorted(values, key=value_rank)
