"""Queries: their form, the sorts of their parts, and their sources."""

from aboveless.errors import InvalidSource, InvalidText, UnknownSource, WrongSort
from aboveless.expressions import Expression
from aboveless.sources import is_source
from aboveless.texts import split_text
from aboveless.values import is_integer_text, is_name

CLAUSES = ("items", "from", "where", "group", "order", "limit")
FROM_PLACE = 2
MOST_ITEMS = 8
MOST_SOURCES = 4
MOST_GROUPS = 4
MOST_ORDERS = 4
MOST_ROWS = 1000
# the sorts that an item with this word takes
TAKEN_SORTS = {"sum": ("int",), "least": ("int", "text"), "greatest": ("int", "text")}


def require(holds):
    if not holds:
        raise InvalidText("query")


def read_expression(text):
    try:
        return Expression(text)
    except InvalidText:
        raise InvalidText("query") from None


def read_clauses(parts):
    """The dict from the words of the parts of a query to what stands behind these words."""
    require(bool(parts) and parts[0] == "select")
    clauses = [split_text(part) for part in parts[1:]]
    require(all([bool(clause) for clause in clauses]))
    words = [clause[0] for clause in clauses]
    require(words[:2] == ["items", "from"])
    require(words == [word for word in CLAUSES if word in words])
    return {clause[0]: clause[1:] for clause in clauses}


def read_pairs(parts, most):
    """The tuples of the two parts of each of these parts."""
    require(1 <= len(parts) <= most)
    pairs = [split_text(part) for part in parts]
    require(all([pair is not None and len(pair) == 2 for pair in pairs]))
    return [(first, second) for first, second in pairs]


def require_names(names):
    require(all([is_name(name) for name in names]) and len(set(names)) == len(names))


def read_sources(parts):
    pairs = read_pairs(parts, MOST_SOURCES)
    require_names([alias for alias, source in pairs])
    require(all([is_source(source) for alias, source in pairs]))
    return pairs


def read_item(name, text, is_grouped):
    """The name of an item, its word, and its expression or None."""
    inner = split_text(text)
    if is_grouped and inner == ["count"]:
        return (name, "count", None)
    if is_grouped and inner and len(inner) == 2 and inner[0] in TAKEN_SORTS:
        return (name, inner[0], read_expression(inner[1]))
    return (name, "value", read_expression(text))


def read_items(parts, is_grouped):
    pairs = read_pairs(parts, MOST_ITEMS)
    require_names([name for name, text in pairs])
    return [read_item(name, text, is_grouped) for name, text in pairs]


def read_where(parts):
    require(len(parts) == 1)
    return read_expression(parts[0])


def read_groups(parts):
    require(len(parts) <= MOST_GROUPS)
    return [read_expression(part) for part in parts]


def read_orders(parts, names):
    pairs = read_pairs(parts, MOST_ORDERS)
    require_names([name for word, name in pairs])
    require(all([word in ("up", "down") and name in names for word, name in pairs]))
    return [(name, word == "up") for word, name in pairs]


def read_limit(parts):
    require(len(parts) == 1 and is_integer_text(parts[0]))
    most = int(parts[0])
    require(0 <= most <= MOST_ROWS)
    return most


def require_aliases(expression, aliases):
    for column in expression.columns():
        alias, dot, name = column.partition(".")
        require(name != "" and alias in aliases)


def bound_source(source, sources):
    """The text to which a dict leads from a source; the source itself if it is no key."""
    if source not in sources:
        return source
    if not is_source(sources[source]):
        raise InvalidSource(sources[source])
    return sources[source]


def item_sort(item, columns, place):
    name, word, expression = item
    if word == "count":
        return "int"
    if word == "value":
        return expression.sort_at(columns, place)
    sort = expression.sort_at(columns, place + (0,))
    if sort not in TAKEN_SORTS[word]:
        raise WrongSort(place)
    return sort


class Query:
    """What is asked of sources; it does not change."""

    def __init__(self, text):
        if not isinstance(text, str):
            raise InvalidText("string")
        self._text = text
        self._parts = split_text(text)
        clauses = read_clauses(self._parts)
        self._grouped = "group" in clauses
        self._sources = read_sources(clauses["from"])
        self._items = read_items(clauses["items"], self._grouped)
        self._where = read_where(clauses["where"]) if "where" in clauses else None
        self._groups = read_groups(clauses.get("group", []))
        names = [name for name, word, expression in self._items]
        self._orders = read_orders(clauses["order"], names) if "order" in clauses else []
        self._most_rows = read_limit(clauses["limit"]) if "limit" in clauses else None
        self._require_columns()
        self._require_groups()

    def _require_columns(self):
        aliases = [alias for alias, source in self._sources]
        expressions = [expression for name, word, expression in self._items] + [self._where]
        for expression in expressions + self._groups:
            if expression is not None:
                require_aliases(expression, aliases)

    def _require_groups(self):
        if self._grouped:
            for name, word, expression in self._items:
                require(word != "value" or expression in self._groups)

    @property
    def text(self):
        return self._text

    @property
    def is_grouped(self):
        return self._grouped

    def sources(self):
        return list(self._sources)

    def item_list(self):
        return list(self._items)

    def where(self):
        return self._where

    def groups(self):
        return list(self._groups)

    def orders(self):
        return list(self._orders)

    def most_rows(self):
        return self._most_rows

    def columns_in(self, sources):
        columns = self._column_sorts(sources)
        if self._where is not None and self._where.sort_at(columns, ("where", 0)) != "truth":
            raise WrongSort(("where", 0))
        for at, expression in enumerate(self._groups):
            expression.sort_at(columns, ("group", at))
        return [(item[0], item_sort(item, columns, ("items", at))) for at, item in enumerate(self._items)]

    def _column_sorts(self, sources):
        """The dict from the texts of all columns of the sources to their sorts."""
        sorts = {}
        for alias, source in self._sources:
            if source not in sources:
                raise UnknownSource(source)
            for column, sort, may_be_empty in sources[source]:
                sorts[f"{alias}.{column}"] = sort
        return sorts

    def bound(self, sources):
        pairs = [f"({alias} {bound_source(source, sources)})" for alias, source in self._sources]
        parts = list(self._parts)
        parts[FROM_PLACE] = f"(from {' '.join(pairs)})"
        return Query(f"({' '.join(parts)})")

    def __eq__(self, other):
        return isinstance(other, Query) and self._text == other._text

    def __str__(self):
        return str(self._text)

    def __repr__(self):
        return f"Query({self._text!r})"
