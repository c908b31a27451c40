"""How the sources of a query can be read, what this is estimated to cost, and the best plan."""

from aboveless.expressions import Expression
from aboveless.statistics import statistics

# what a view counts as in all estimates
VIEW_ROWS = 16


def conjuncts_of(expression):
    """The conjuncts of an expression: those of the two parts of an `and`, or the expression itself."""
    parts = expression.parts()
    if parts[:1] != ["and"]:
        return [expression]
    return conjuncts_of(Expression(parts[1])) + conjuncts_of(Expression(parts[2]))


def query_conjuncts(query):
    where = query.where()
    return [] if where is None else conjuncts_of(where)


def has_only(expression, aliases):
    """Whether an expression has no columns but of the sources with these aliases."""
    return all([column.partition(".")[0] in aliases for column in expression.columns()])


def other_part(conjuncts, column, earlier):
    """What the first usable conjunct says that a column is the same as; None if none can be used.

    earlier are the aliases of the sources that are read before that of the column.
    """
    for conjunct in conjuncts:
        parts = conjunct.parts()
        if parts[:1] == ["same"]:
            for own, other in ((parts[1], parts[2]), (parts[2], parts[1])):
                if own == column and has_only(Expression(other), earlier):
                    return Expression(other)
    return None


def index_matches(many, different):
    """How many of these rows are estimated to have one of so many different values."""
    if many == 0 or different == 0:
        return 0
    return -(-many // different)


def sequences_of(aliases):
    """All sequences of some aliases, sorted by the positions that they have here."""
    if not aliases:
        return [()]
    found = []
    for at, alias in enumerate(aliases):
        behind = sequences_of(aliases[:at] + aliases[at + 1:])
        found.extend([(alias,) + sequence for sequence in behind])
    return found


class Planner:
    """What plans for a query in a world rest on."""

    def __init__(self, world, query):
        self._conjuncts = query_conjuncts(query)
        self._sources = {alias: world.source_id(source) for alias, source in query.sources()}
        self._statistics = statistics(world)
        self._indexes = [
            (name, label, world.entry(kind, name, label)) for kind, name, label in world.entries("index")
        ]

    def source_of(self, alias):
        """The ID of the source with this alias."""
        return self._sources[alias]

    def conjuncts_over(self, aliases):
        """The conjuncts that have no columns but of the sources with these aliases."""
        return [conjunct for conjunct in self._conjuncts if has_only(conjunct, aliases)]

    def column_of(self, way):
        """The column of an index, told as the tuple of its name and its label."""
        told = (way[0], str(way[1]))
        return [index.column for name, label, index in self._indexes if (name, str(label)) == told][0]

    def other_part_of(self, alias, column, earlier):
        return other_part(self._conjuncts, f"{alias}.{column}", earlier)

    def ways_of(self, alias, earlier):
        """The ways in which a source can be read: None, which is by scan, and its usable indexes."""
        found = [None]
        for name, label, index in self._indexes:
            if index.table == self._sources[alias]:
                if self.other_part_of(alias, index.column, earlier) is not None:
                    found.append((name, label))
        return found

    def costs_of(self, alias, way):
        """The estimated reads and matches of a source that is read in a way."""
        source = self._sources[alias]
        # views have no statistics
        many, different = self._statistics.get(source, (VIEW_ROWS, {}))
        if way is None:
            return (many, many)
        matches = index_matches(many, different[self.column_of(way)])
        return (matches + 1, matches)

    def best_ways(self, aliases, earlier):
        """The least estimate for these sources, in sequence, behind earlier ones, and its first ways."""
        if not aliases:
            return (0, ())
        behind, ways_behind = self.best_ways(aliases[1:], earlier + aliases[:1])
        found = None
        for way in self.ways_of(aliases[0], earlier):
            reads, matches = self.costs_of(aliases[0], way)
            cost = reads + matches * behind
            if found is None or cost < found[0]:
                # behind no matches all ways cost nothing, and scans are the first ones
                rest = ways_behind if matches > 0 else (None,) * len(ways_behind)
                found = (cost, (way,) + rest)
        return found

    def plan_estimate(self, plan):
        total = 0
        combined = 1
        for alias, way in plan:
            reads, matches = self.costs_of(alias, way)
            total += reads * combined
            combined *= matches
        return total

    def found_plan(self):
        """The best plan: a list of tuples (alias, way)."""
        best = None
        for aliases in sequences_of(tuple(self._sources)):
            cost, ways = self.best_ways(aliases, ())
            if best is None or cost < best[0]:
                best = (cost, list(zip(aliases, ways)))
        return best[1]
