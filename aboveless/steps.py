"""How many steps it takes to perform the best plan of a query."""

from aboveless.evaluation import source_rows
from aboveless.planning import Planner
from aboveless.values import value_rank


def named_rows(world, alias, source):
    """The rows of a source as dicts from the texts of its columns to their values."""
    names = [f"{alias}.{column}" for column, sort, may_be_empty in world.columns(source)]
    return [dict(zip(names, row)) for row, basis in source_rows(world, source)]


def view_steps(world, query):
    """The steps of the queries of the views of a query; a view counts for each of its aliases."""
    views = [world.source_id(source) for alias, source in query.sources()]
    return sum([steps_of(world, world.view_query(view)) for view in views if view not in world.tables()])


def rows_with(rows, column, value):
    """The rows whose column has this value; none if it is empty."""
    if value is None:
        return []
    return [row for row in rows if value_rank(row[column]) == value_rank(value)]


class Reading:
    """One source of a plan, read in a way behind earlier sources."""

    def __init__(self, world, planner, alias, way, earlier):
        self._rows = named_rows(world, alias, planner.source_of(alias))
        self._conjuncts = planner.conjuncts_over(earlier)
        self._column = None
        self._other = None
        if way is not None:
            column = planner.column_of(way)
            self._column = f"{alias}.{column}"
            self._other = planner.other_part_of(alias, column, earlier)

    def is_due(self, values):
        """Whether the source is read for a combination of rows of the earlier ones."""
        return all([conjunct.value_in(values) is True for conjunct in self._conjuncts])

    def given_rows(self, values):
        """The rows that reading gives for a combination of rows of the earlier sources."""
        if self._column is None:
            return self._rows
        return rows_with(self._rows, self._column, self._other.value_in(values))

    def steps_for(self, given):
        """The steps of one reading that gives so many rows."""
        return given if self._column is None else 1 + given


def steps_of(world, query):
    """The steps of a query without errors, those of its views included."""
    planner = Planner(world, query)
    steps = view_steps(world, query)
    earlier = ()
    combined = [{}]
    for alias, way in planner.found_plan():
        reading = Reading(world, planner, alias, way, earlier)
        found = []
        for values in combined:
            if reading.is_due(values):
                given = reading.given_rows(values)
                steps += reading.steps_for(len(given))
                found.extend([{**values, **row} for row in given])
        combined = found
        earlier = earlier + (alias,)
    return steps
