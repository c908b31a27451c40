"""The entries of the catalog: tables, views, checks, references, indexes and rights."""

from aboveless.errors import (
    InvalidColumns, InvalidEntry, InvalidError, InvalidName, InvalidRule, InvalidSource, InvalidText
)
from aboveless.expressions import Expression
from aboveless.queries import Query, bound_source
from aboveless.sources import is_source
from aboveless.values import KEY_SORTS, is_name, is_sort

KINDS = ("table", "view", "check", "reference", "index", "right")
MOST_COLUMNS = 6
RULES = ("restrict", "cascade", "empty")
# how many elements each kind of entry tells
TOLD_SIZES = {"table": 3, "view": 3, "check": 4, "reference": 6, "index": 4, "right": 4}


def check_name(value):
    if not is_name(value):
        raise InvalidName(value)


def check_source(value):
    if not is_source(value):
        raise InvalidSource(value)


def is_column_told(value):
    """Whether a value tells a column: its name, its sort, and whether it may be empty."""
    if not isinstance(value, tuple) or len(value) != 3:
        return False
    name, sort, may_be_empty = value
    return is_name(name) and is_sort(sort) and isinstance(may_be_empty, bool)


def is_key_column(column):
    name, sort, may_be_empty = column
    return sort in KEY_SORTS and not may_be_empty


def check_columns(columns):
    if not isinstance(columns, (list, tuple)) or not 1 <= len(columns) <= MOST_COLUMNS:
        raise InvalidColumns(None)
    names = []
    for at, column in enumerate(columns):
        if not is_column_told(column) or column[0] in names:
            raise InvalidColumns(at)
        if at == 0 and not is_key_column(column):
            raise InvalidColumns(at)
        names.append(column[0])


def read_condition(text):
    """The expression of a check; its columns are written without alias."""
    condition = Expression(text)
    if any(["." in column for column in condition.columns()]):
        raise InvalidText("expression")
    return condition


class Entry:
    """The base class of the kinds of entries; it is not used alone."""

    KIND = ""

    def __init__(self, name):
        check_name(name)
        self.name = name

    def sources(self):
        return []

    def bound(self, sources):
        return self

    def told(self):
        return (self.KIND, self.name)

    def __eq__(self, other):
        return isinstance(other, Entry) and self.told() == other.told()


class Table(Entry):
    KIND = "table"

    def __init__(self, name, columns):
        super().__init__(name)
        check_columns(columns)
        self.column_list = tuple(columns)

    def sources(self):
        return []

    def bound(self, sources):
        return self

    def told(self):
        return (self.KIND, self.name, self.column_list)


class View(Entry):
    KIND = "view"

    def __init__(self, name, query):
        super().__init__(name)
        self.query = Query(query)

    def sources(self):
        return [source for alias, source in self.query.sources()]

    def bound(self, sources):
        return View(self.name, self.query.bound(sources).text)

    def told(self):
        return (self.KIND, self.name, self.query.text)


class Check(Entry):
    KIND = "check"

    def __init__(self, name, table, condition):
        super().__init__(name)
        check_source(table)
        self.table = table
        self.condition = read_condition(condition)

    def sources(self):
        return [self.table]

    def bound(self, sources):
        return Check(self.name, bound_source(self.table, sources), self.condition.text)

    def told(self):
        return (self.KIND, self.name, self.table, self.condition.text)


class Reference(Entry):
    KIND = "reference"

    def __init__(self, name, table, column, target, *, rule="restrict"):
        super().__init__(name)
        check_source(table)
        check_name(column)
        check_source(target)
        if not isinstance(rule, str) or rule not in RULES:
            raise InvalidRule(rule)
        self.table = table
        self.column = column
        self.target = target
        self.rule = rule

    def sources(self):
        return [self.table, self.target]

    def bound(self, sources):
        table = bound_source(self.table, sources)
        target = bound_source(self.target, sources)
        return Reference(self.name, table, self.column, target, rule=self.rule)

    def told(self):
        return (self.KIND, self.name, self.table, self.column, self.target, self.rule)


class Index(Entry):
    KIND = "index"

    def __init__(self, name, table, column):
        super().__init__(name)
        check_source(table)
        check_name(column)
        self.table = table
        self.column = column

    def sources(self):
        return [self.table]

    def bound(self, sources):
        return Index(self.name, bound_source(self.table, sources), self.column)

    def told(self):
        return (self.KIND, self.name, self.table, self.column)


class Right(Entry):
    KIND = "right"

    def __init__(self, name, user, mark):
        super().__init__(name)
        check_name(user)
        check_name(mark)
        self.user = user
        self.mark = mark

    def sources(self):
        return []

    def bound(self, sources):
        return self

    def told(self):
        return (self.KIND, self.name, self.user, self.mark)


def is_told_form(told):
    """Whether a value is a tuple with the word of a kind and as many elements as it tells."""
    if not isinstance(told, tuple) or len(told) == 0 or not isinstance(told[0], str):
        return False
    if told[0] == "table" and not isinstance(told[-1], tuple):
        return False
    return TOLD_SIZES.get(told[0]) == len(told)


def made_entry(kind, details):
    if kind == "table":
        return Table(*details)
    if kind == "view":
        return View(*details)
    if kind == "check":
        return Check(*details)
    if kind == "index":
        return Index(*details)
    if kind == "right":
        return Right(*details)
    name, table, column, target, rule = details
    return Reference(name, table, column, target, rule=rule)


def entry_of(told):
    if not is_told_form(told):
        raise InvalidEntry(told)
    try:
        return made_entry(told[0], told[1:])
    except InvalidError:
        raise InvalidEntry(told) from None
