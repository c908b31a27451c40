"""Plans of queries: what they are estimated to cost, the best one, and what it really takes."""

from aboveless.answers import answer
from aboveless.errors import InvalidCount, TooDear
from aboveless.evaluation import check_query
from aboveless.planning import Planner
from aboveless.steps import steps_of
from aboveless.values import is_count


def estimate(world, query, plan):
    check_query(world, query)
    return Planner(world, query).plan_estimate(plan)


def best_plan(world, query):
    check_query(world, query)
    return Planner(world, query).found_plan()


def told_source(planner, alias, way):
    reads, matches = planner.costs_of(alias, way)
    how = "scan" if way is None else f"by {way[0]}:{way[1]}"
    return f"{alias} {how} {planner.source_of(alias)} reads {reads} matches {matches}"


def explained(world, query):
    check_query(world, query)
    planner = Planner(world, query)
    plan = planner.found_plan()
    told = [told_source(planner, alias, way) for alias, way in plan]
    return told + [f"estimate {planner.plan_estimate(plan)}"]


def measure(world, query, *, within=None):
    check_query(world, query)
    if within is not None and not is_count(within):
        raise InvalidCount(within)
    steps = steps_of(world, query)
    if within is not None and steps > within:
        raise TooDear(within)
    return (answer(world, query), steps)
