"""The answer to a query in a world, and what each of its rows rests on."""

from aboveless.errors import InvalidCount
from aboveless.evaluation import answered, check_query
from aboveless.sources import place_rank
from aboveless.values import is_count


def answer(world, query):
    check_query(world, query)
    return [row for row, places in answered(world, query)]


def basis(world, query, position):
    check_query(world, query)
    found = answered(world, query)
    if not is_count(position) or position >= len(found):
        raise InvalidCount(position)
    row, places = found[position]
    return sorted(places, key=place_rank)
