"""The combinations of rows of the sources of a query."""

from aboveless.evaluation import check_query, chosen_combinations


def combinations(world, query):
    check_query(world, query)
    for values, joined in chosen_combinations(world, query):
        yield tuple([row for row, basis in joined])
