"""Which entries of a catalog stand in a world, and why the others are suspended."""

from aboveless.errors import InvalidRule, UnknownColumn, WrongSort
from aboveless.sources import id_of


def found_column(columns, name):
    """The tuple (column, sort, may_be_empty) with this name among the columns of a table."""
    for column in columns:
        if column[0] == name:
            return column
    raise UnknownColumn(name)


def check_view(view, columns):
    view.query.columns_in(columns)


def check_condition(check, columns):
    sorts = {name: sort for name, sort, may_be_empty in columns[check.table]}
    if check.condition.sort_in(sorts) != "truth":
        raise WrongSort(())


def check_reference(reference, columns):
    name, sort, may_be_empty = found_column(columns[reference.table], reference.column)
    key_column = columns[reference.target][0]
    if sort != key_column[1]:
        raise WrongSort(())
    if reference.rule == "empty" and not may_be_empty:
        raise InvalidRule("empty")


def check_index(index, columns):
    found_column(columns[index.table], index.column)


SORT_CHECKS = {
    "view": check_view,
    "check": check_condition,
    "reference": check_reference,
    "index": check_index,
}


def check_sorts(entry, columns):
    """Raises what is wrong with the columns and sorts of a bound entry.

    columns leads from the IDs of sources, those of the entry among them, to their columns.
    """
    if entry.KIND in SORT_CHECKS:
        action = SORT_CHECKS[entry.KIND]
        action(entry, columns)


def has_right_sorts(entry, columns):
    try:
        check_sorts(entry, columns)
    except (UnknownColumn, WrongSort, InvalidRule):
        return False
    return True


def reason_of(entry, columns, tables):
    """Why an entry is suspended; None if it stands."""
    known = columns if entry.KIND == "view" else tables
    for source in entry.sources():
        if source not in known:
            return ("missing", source)
    return None if has_right_sorts(entry, columns) else ("sort",)


def view_columns(view, columns):
    """The columns of a view; what it computes may always be empty."""
    return [(name, sort, True) for name, sort in view.query.columns_in(columns)]


def judge_entries(entries):
    """The columns of the standing sources, and the reason of each entry, None if it stands.

    entries are the tuples (label, entry) in catalog order; the columns are a dict from IDs.
    """
    tables = {id_of(entry.name, label): list(entry.column_list) for label, entry in entries if entry.KIND == "table"}
    columns = dict(tables)
    reasons = []
    for label, entry in entries:
        reason = reason_of(entry, columns, tables)
        if entry.KIND == "view" and reason is None:
            columns[id_of(entry.name, label)] = view_columns(entry, columns)
        reasons.append(reason)
    return (columns, reasons)
