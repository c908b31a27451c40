"""How queries are answered: combinations of rows, groups, items, and the basis of each row."""

from aboveless.expressions import value_or_empty
from aboveless.values import in_value_order, row_rank, value_rank


def check_query(world, query):
    """Raises what is wrong with the sources and sorts of a query in a world."""
    query.columns_in({source: world.columns(source) for alias, source in query.sources()})


def source_rows(world, source):
    """The tuples (row, basis) of the rows of a source; a basis is a list of tuples (ID, key)."""
    found = world.source_id(source)
    if found in world.tables():
        return [(row, [(found, key)]) for key, row, label in world.rows(found)]
    return answered(world, world.view_query(found))


def joined_basis(bases):
    """The list of the different tuples (ID, key) of several bases."""
    return list({place: True for basis in bases for place in basis})


def with_row(names, combination, row):
    """A combination, a tuple (values, rows with their bases), with one row more."""
    values, rows = combination
    more = dict(zip(names, row[0]))
    return ({**values, **more}, rows + (row,))


def chosen_combinations(world, query):
    """The combinations for which WHERE is true, in sequence: tuples (values, rows with their bases).

    values is the dict from the texts of all columns to their values.
    """
    found = [({}, ())]
    for alias, source in query.sources():
        names = [f"{alias}.{column}" for column, sort, may_be_empty in world.columns(source)]
        rows = source_rows(world, source)
        found = [with_row(names, combination, row) for combination in found for row in rows]
    where = query.where()
    return [combination for combination in found if where is None or where.value_in(combination[0]) is True]


def groups_of(query, combinations_found):
    """The combinations with their groups put together, sorted by the values of GROUP."""
    groups = {}
    if not query.groups():
        groups[()] = []
    for combination in combinations_found:
        rank = row_rank([expression.value_in(combination[0]) for expression in query.groups()])
        members = groups.setdefault(rank, [])
        members.append(combination)
    return [groups[rank] for rank in sorted(groups)]


def taken_value(word, values):
    """The sum, the least or the greatest of those values that are not empty."""
    filled = in_value_order([value for value in values if value is not None])
    if word == "sum":
        return value_or_empty(sum(filled))
    if not filled:
        return None
    return filled[0] if word == "least" else filled[-1]


def item_value(item, members):
    """The value of an item for the combinations of a group, or for one combination alone."""
    name, word, expression = item
    if word == "count":
        return len(members)
    if word == "value":
        return expression.value_in(members[0][0])
    return taken_value(word, [expression.value_in(values) for values, rows in members])


def answer_row(query, members):
    """The tuple (row, basis) that these combinations give."""
    row = tuple([item_value(item, members) for item in query.item_list()])
    return (row, joined_basis([basis for values, rows in members for given, basis in rows]))


def sorted_by(rows, at, is_up):
    """The rows of an answer by their values at a position; of equal ones each keeps its place."""
    if is_up:
        return sorted(rows, key=lambda pair: value_rank(pair[0][at]))
    return sorted(rows, key=lambda pair: value_rank(pair[0][at]), reverse=True)


def in_asked_order(query, rows):
    names = [name for name, word, expression in query.item_list()]
    # the last name first, since what is sorted later counts more
    for name, is_up in reversed(query.orders()):
        rows = sorted_by(rows, names.index(name), is_up)
    return rows


def answered(world, query):
    """The tuples (row, basis) of the answer to a query without errors."""
    found = chosen_combinations(world, query)
    groups = groups_of(query, found) if query.is_grouped else [[combination] for combination in found]
    rows = in_asked_order(query, [answer_row(query, members) for members in groups])
    most = query.most_rows()
    return rows if most is None else rows[:most]
