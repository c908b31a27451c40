"""Expressions over columns: their form, their sorts and their values."""

from aboveless.errors import InvalidText, UnknownColumn, WrongSort
from aboveless.texts import split_text
from aboveless.values import is_name, is_value_text, read_value, sort_of, value_rank

MOST_PARTS = 60
MOST_DEPTH = 8
EMPTY_SORTS = {"(none int)": "int", "(none text)": "text", "(none truth)": "truth"}
# for each operation the sorts that its parts may have, and behind them its own sort
SIGNATURES = {
    "add": (("int", "int", "int"),),
    "sub": (("int", "int", "int"),),
    "mul": (("int", "int", "int"),),
    "cat": (("text", "text", "text"),),
    "size": (("text", "int"),),
    "same": (("int", "int", "truth"), ("text", "text", "truth"), ("truth", "truth", "truth")),
    "less": (("int", "int", "truth"), ("text", "text", "truth")),
    "not": (("truth", "truth"),),
    "and": (("truth", "truth", "truth"),),
    "or": (("truth", "truth", "truth"),),
    "filled": (("int", "truth"), ("text", "truth"), ("truth", "truth")),
    "pick": (
        ("truth", "int", "int", "int"),
        ("truth", "text", "text", "text"),
        ("truth", "truth", "truth", "truth"),
    ),
}


def sum_of(first, second):
    return first + second


def difference_of(first, second):
    return first - second


def product_of(first, second):
    return first * second


def joined(first, second):
    return first + second


def size_of(part):
    return len(part)


def are_same(first, second):
    return value_rank(first) == value_rank(second)


def is_less(first, second):
    return first < second


def is_not(part):
    return not part


def are_both(first, second):
    if first is False or second is False:
        return False
    return None if first is None or second is None else True


def is_either(first, second):
    if first is True or second is True:
        return True
    return None if first is None or second is None else False


def is_filled(part):
    return part is not None


def picked(test, first, second):
    return first if test is True else second


# the operations that have an empty value if one of their parts is empty
STRICT = {
    "add": sum_of,
    "sub": difference_of,
    "mul": product_of,
    "cat": joined,
    "size": size_of,
    "same": are_same,
    "less": is_less,
    "not": is_not,
}
LENIENT = {"and": are_both, "or": is_either, "filled": is_filled, "pick": picked}


def value_or_empty(result):
    """The result of a calculation, or the empty value where it is out of bounds."""
    return None if sort_of(result) is None else result


def operation_value(word, parts):
    if word in LENIENT:
        action = LENIENT[word]
        return action(*parts)
    if None in parts:
        return None
    action = STRICT[word]
    return value_or_empty(action(*parts))


def constant_of(text):
    """The sort and the value of the text of a value; None if it is none."""
    if text in EMPTY_SORTS:
        return (EMPTY_SORTS[text], None)
    if not is_value_text(text):
        return None
    value = read_value(text)
    return (sort_of(value), value)


def is_column(text):
    names = text.split(".")
    return len(names) <= 2 and all([is_name(name) for name in names])


def operation_parts(text):
    """The word of an operation and the texts of its parts; none of a value or a column."""
    if constant_of(text) is not None or is_column(text):
        return []
    parts = split_text(text)
    if not parts or parts[0] not in SIGNATURES:
        raise InvalidText("expression")
    if len(parts) != len(SIGNATURES[parts[0]][0]):
        raise InvalidText("expression")
    return parts


def columns_among(text, constant, inner):
    """The different columns of an expression with this text, this constant, these parts."""
    if constant is None and not inner:
        return [text]
    return list({column: True for part in inner for column in part.columns()})


class Expression:
    """A value, a column or an operation; it does not change."""

    def __init__(self, text):
        if not isinstance(text, str):
            raise InvalidText("string")
        self._text = text
        self._parts = operation_parts(text)
        self._constant = constant_of(text)
        self._inner = [Expression(part) for part in self._parts[1:]]
        self._all_parts = [text] + [part for inner in self._inner for part in inner._all_parts]
        self._columns = columns_among(text, self._constant, self._inner)
        self._depth = 1 + max([inner._depth for inner in self._inner], default=0)
        if len(self._all_parts) > MOST_PARTS or self._depth > MOST_DEPTH:
            raise InvalidText("expression")

    @property
    def text(self):
        return self._text

    def parts(self):
        return list(self._parts)

    def columns(self):
        return list(self._columns)

    def sort_in(self, columns):
        return self.sort_at(columns, ())

    def sort_at(self, columns, place):
        """The sort; in errors, the places of the parts follow this place."""
        if self._constant is not None:
            return self._constant[0]
        if not self._inner:
            if self._text not in columns:
                raise UnknownColumn(self._text)
            return columns[self._text]
        sorts = tuple([part.sort_at(columns, place + (at,)) for at, part in enumerate(self._inner)])
        for signature in SIGNATURES[self._parts[0]]:
            if signature[:-1] == sorts:
                return signature[-1]
        raise WrongSort(place)

    def value_in(self, values):
        for column in self._columns:
            if column not in values:
                raise UnknownColumn(column)
        return self._value_among(values)

    def _value_among(self, values):
        if self._constant is not None:
            return self._constant[1]
        if not self._inner:
            return values[self._text]
        parts = [inner._value_among(values) for inner in self._inner]
        return operation_value(self._parts[0], parts)

    def __eq__(self, other):
        return isinstance(other, Expression) and self._text == other._text

    def __len__(self):
        return len(self._all_parts)

    def __str__(self):
        return str(self._text)

    def __repr__(self):
        return f"Expression({self._text!r})"
