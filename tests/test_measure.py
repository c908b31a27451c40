"""[25]: the steps of queries, and bounds for them."""

import itertools
import random
import unittest

from aboveless.answers import answer
from aboveless.entries import Check, Index, View
from aboveless.expressions import Expression
from aboveless.plans import best_plan, measure
from aboveless.queries import Query
from tests.helpers import end_of, error_of, every_kind, exact, unchanged
from tests.samples import A, AB, B, LOW, base_of, put, table
from tests.test_plans import I, T, U, VIEW, filled, model_conjuncts, random_sources, random_where, select


class MeasureCase(unittest.TestCase):
    def takes(self, world, query, steps):
        """Checks the steps, the answer, and the bounds around them."""
        rows = answer(world, query)
        for _ in range(2):
            self.assertEqual(exact(unchanged(self, measure, world, query)), exact((rows, steps)))
        self.assertEqual(measure(world=world, query=query, within=None), (rows, steps))
        for bound in (steps, steps + 1, steps + 1000):
            self.assertEqual(measure(world, query, within=bound), (rows, steps))
        if steps > 0:
            for bound in (steps - 1, 0):
                for _ in range(2):
                    self.assertEqual(error_of(lambda: measure(world, query, within=bound)), ("TooDear", bound))


class ScanTest(MeasureCase):
    def test_one_source(self):
        for many in (0, 1, 5, 8):
            self.takes(filled(base_of(T), many).world(LOW), select("x=t"), many)

    def test_conditions_on_the_last_source_make_no_difference(self):
        world = filled(base_of(T), 5).world(LOW)
        self.takes(world, select("x=t", "(less x.k 2)"), 5)
        self.takes(world, select("x=t", "(less x.k (none int))"), 5)

    def test_combinations(self):
        base = filled(filled(base_of(T, U), 5, 2), 3, 3, "u:-")
        world = base.world(LOW)
        self.takes(world, select("x=t y=u"), 3 + 3 * 5)
        self.takes(world, select("x=t y=u", "(same x.n y.n)"), 3 + 3 * 5)
        self.takes(world, select("x=t y=u", "(less y.n 2)"), 3 + 2 * 5)
        self.takes(world, select("x=t y=u", "(and (less x.k 1) (less y.n 1))"), 3 + 1 * 5)
        self.takes(world, select("x=t y=u", "(less y.n 0)"), 3)
        # an or is one conjunct of two sources
        self.takes(world, select("x=t y=u", "(or (less y.n 0) (less x.k 0))"), 3 + 3 * 5)
        # 3 of u, with each 5 of t, with the pairs that are left each 5 of t
        self.takes(world, select("x=t y=u z=t", "(same x.n y.n)"), 3 + 3 * 5 + (3 + 2) * 5)

    def test_empty_conditions_are_not_true(self):
        base = filled(base_of(T, U), 4)
        put(base, (LOW, "u:-", ("a", None, None, None)), (LOW, "u:-", ("b", 1, None, None)))
        self.takes(base.world(LOW), select("x=t y=u", "(less y.n 5)"), 2 + 1 * 4)

    def test_groups_orders_and_limits_make_no_difference(self):
        world = filled(base_of(T), 5).world(LOW)
        self.takes(world, Query("(select (items (c (count))) (from (x t)) (group))"), 5)
        self.takes(world, Query("(select (items (k x.k)) (from (x t)) (order (down k)) (limit 1))"), 5)
        self.takes(world, Query("(select (items (k x.k)) (from (x t)) (limit 0))"), 5)


class ConstantTest(MeasureCase):
    def test_conjuncts_without_columns(self):
        base = filled(base_of(T, VIEW, Index("i", "t", "n")), 8, 8)
        world = base.world(LOW)
        for condition in ("true", "(same 1 1)", "(filled 1)"):
            self.takes(world, select("x=t", condition), 8)
            self.takes(world, select("x=t", f"(and (same x.n 1) {condition})"), 2)
        for condition in ("false", "(none truth)", "(same 1 2)", "(same 1 (none int))"):
            self.takes(world, select("x=t", condition), 0)
            self.takes(world, select("x=t y=t", condition), 0)
            self.takes(world, select("x=t", f"(and (same x.n 1) {condition})"), 0)
            # the view is measured all the same
            self.takes(world, select("x=v", condition), 8)
            self.takes(world, select("x=t y=v z=v", condition), 16)


class IndexTest(MeasureCase):
    def test_one_source(self):
        world = filled(base_of(T, Index("i", "t", "n")), 9, 3).world(LOW)
        self.takes(world, select("x=t", "(same x.n 1)"), 1 + 3)
        self.takes(world, select("x=t", "(same (add 0 1) x.n)"), 1 + 3)
        self.takes(world, select("x=t", "(same x.n 77)"), 1)
        self.takes(world, select("x=t", "(same x.n (none int))"), 1)
        self.takes(world, select("x=t", "(and (same x.n 1) (same x.k 4))"), 1 + 3)

    def test_the_first_usable_conjunct(self):
        world = filled(base_of(T, Index("i", "t", "n")), 9, 3).world(LOW)
        self.takes(world, select("x=t", "(and (same x.n 77) (same x.n 1))"), 1)
        self.takes(world, select("x=t", "(and (same x.n 1) (same x.n 77))"), 1 + 3)
        self.takes(world, select("x=t", "(and (same x.n x.k) (and (same x.n (none int)) (same x.n 1)))"), 1)

    def test_of_earlier_sources(self):
        base = filled(base_of(T, U, Index("i", "t", "n")), 9, 3)
        put(base, (LOW, "u:-", ("a", 1, None, None)), (LOW, "u:-", ("b", None, None, None)), (LOW, "u:-", ("c", 5, None, None)))
        world, query = base.world(LOW), select("x=t y=u", "(same x.n y.n)")
        self.assertEqual(best_plan(world, query), [("y", None), ("x", I)])
        # three of u, and with each of them one step, and three rows for the value 1
        self.takes(world, query, 3 + 3 + 3)

    def test_empty_values_are_not_found(self):
        base = base_of(T, U, Index("i", "t", "n"), Index("j", "t", "s"))
        put(base, *[(LOW, "t:-", (key, None if key < 4 else key, None, None)) for key in range(8)])
        self.takes(base.world(LOW), select("x=t", "(same x.n (none int))"), 1)
        self.takes(base.world(LOW), select("x=t", "(same x.n 5)"), 1 + 1)
        self.takes(base.world(LOW), select("x=t", "(same x.s 'a')"), 1)

    def test_truths_and_keys(self):
        base = filled(base_of(T, Index("i", "t", "b"), Index("j", "t", "k")), 9, 3)
        self.takes(base.world(LOW), select("x=t", "(same x.k 4)"), 1 + 1)
        self.takes(base.world(LOW), select("x=t", "(same x.b true)"), 1 + 3)
        self.takes(base.world(LOW), select("x=t", "(same x.b (not true))"), 1 + 6)

    def test_rows_that_stand(self):
        base = filled(base_of(T, Index("i", "t", "n")), 9, 3)
        base.define(A, Check("c", "t", "(less k 6)"))
        put(base, (A, "t:-", (0, 1, None, None)), (B, "t:-", (1, 2, None, None)))
        self.takes(base.world(LOW), select("x=t", "(same x.n 1)"), 1 + 3)
        self.takes(base.world(A), select("x=t", "(same x.n 1)"), 1 + 3)
        self.takes(base.world(A), select("x=t", "(same x.n 0)"), 1 + 1)
        self.takes(base.world(B), select("x=t", "(same x.n 1)"), 1 + 2)
        self.takes(base.world(AB), select("x=t", "(same x.n 1)"), 1 + 2)


class ViewTest(MeasureCase):
    def test_a_view(self):
        world = filled(base_of(T, VIEW), 5).world(LOW)
        self.takes(world, select("x=v"), 5 + 5)
        self.takes(world, select("x=v", "(same x.n 1)"), 5 + 5)

    def test_each_alias_counts(self):
        world = filled(base_of(T, VIEW), 5).world(LOW)
        self.takes(world, select("x=v y=v"), 5 + 5 + 5 + 5 * 5)
        self.takes(world, select("x=v y=v:- z=v", "(less x.n 0)"), 15 + 5)

    def test_the_rows_of_the_answer(self):
        view = View("v", "(select (items (n x.n) (c (count))) (from (x t)) (group x.n))")
        world = filled(base_of(T, view), 9, 3).world(LOW)
        self.takes(world, select("x=v"), 9 + 3)
        limited = View("v", "(select (items (n x.n)) (from (x t)) (limit 2))")
        self.takes(filled(base_of(T, limited), 9).world(LOW), select("x=v"), 9 + 2)

    def test_views_with_plans_of_their_own(self):
        view = View("v", "(select (items (k x.k)) (from (x t)) (where (same x.n 1)))")
        world = filled(base_of(T, Index("i", "t", "n"), view), 9, 3).world(LOW)
        self.takes(world, select("x=v"), 4 + 3)

    def test_views_over_views(self):
        over = View("w", "(select (items (n p.n)) (from (p v) (q v)) (where (same p.n 0)))")
        world = filled(base_of(T, VIEW, over), 4, 4).world(LOW)
        # v is measured for p and for q; then 4 rows of v, and 4 again for the one that has 0
        self.takes(world, select("x=w"), (4 + 4 + 4 + 4) + 4)
        self.takes(world, select("x=w y=v"), (4 + 4 + 4 + 4) + 4 + 4 + 4 * 4)
        deep = View("d", "(select (items (n p.n)) (from (p w)))")
        world = filled(base_of(T, VIEW, over, deep), 4, 4).world(LOW)
        self.takes(world, select("x=d"), (16 + 4) + 4)

    def test_indexes_by_values_of_views(self):
        world = filled(base_of(T, VIEW, Index("i", "t", "n")), 40, 40).world(LOW)
        query = select("x=t y=v", "(same x.n y.n)")
        self.assertEqual(best_plan(world, query), [("y", None), ("x", I)])
        self.takes(world, query, 40 + 40 + 40 * 2)


class BoundsTest(unittest.TestCase):
    def test_values_that_are_no_counts(self):
        world = filled(base_of(T), 3).world(LOW)
        for value in every_kind():
            told = end_of(lambda: measure(world, select("x=t"), within=value))
            if value is None or exact(value)[0] == "int" and value >= 3:
                self.assertEqual(told[0], "done")
            elif exact(value)[0] == "int" and value >= 0:
                self.assertEqual(told, ("error", ("TooDear", value)))
            else:
                self.assertEqual(told[1][0], "InvalidCount")
                self.assertIs(told[1][1], value)
            self.assertEqual(error_of(lambda: measure(world, select("x=q"), within=value)), ("UnknownSource", "q"))

    def test_by_keyword_only(self):
        self.assertRaises(TypeError, measure, base_of(T).world(LOW), select("x=t"), 5)

    def test_no_steps(self):
        world = base_of(T).world(LOW)
        self.assertEqual(measure(world, select("x=t"), within=0), ([], 0))
        self.assertEqual(measure(world, select("x=t"), within=False or 0), ([], 0))
        self.assertEqual(error_of(lambda: measure(world, select("x=t"), within=False)), ("InvalidCount", False))

    def test_what_is_returned_is_new(self):
        world = filled(base_of(T), 2).world(LOW)
        measure(world, select("x=t"))[0].clear()
        self.assertEqual(measure(world, select("x=t")), ([(1,), (1,)], 2))


def model_rows(world, source):
    found = world.source_id(source)
    if found in world.tables():
        return [row for _, row, _ in world.rows(found)]
    name, _, text = found.partition(":")
    told = [world.entry(*told).told() for told in world.entries("view") if (told[1], str(told[2])) == (name, text)]
    return answer(world, Query(told[0][2]))


def model_steps(world, query):
    """The steps of the best plan by the words of the document: all combinations of all rows are tried."""
    steps = 0
    sources = dict(query.sources())
    for source in sources.values():
        found = world.source_id(source)
        if found not in world.tables():
            name, _, text = found.partition(":")
            told = [world.entry(*told).told() for told in world.entries("view") if (told[1], str(told[2])) == (name, text)]
            steps += model_steps(world, Query(told[0][2]))
    conjuncts = [] if query.where() is None else [Expression(text) for text in model_conjuncts(query.where().text)]
    rows = {
        alias: [dict(zip([f"{alias}.{column[0]}" for column in world.columns(source)], row))
                for row in model_rows(world, source)] for alias, source in sources.items()
    }
    plan = best_plan(world, query)
    for at, (alias, way) in enumerate(plan):
        earlier = [name for name, _ in plan[:at]]

        def is_over_earlier(expression):
            return all(column.split(".")[0] in earlier for column in expression.columns())

        for chosen in itertools.product(*[rows[name] for name in earlier]):
            values = {column: value for row in chosen for column, value in row.items()}
            if any(part.value_in(values) is not True for part in conjuncts if is_over_earlier(part)):
                continue
            if way is None:
                steps += len(rows[alias])
                continue
            own = f"{alias}.{world.entry('index', *way).told()[3]}"
            pairs = [part.parts()[1:] for part in conjuncts if part.parts()[:1] == ["same"] and own in part.parts()]
            others = [Expression(second if first == own else first) for first, second in pairs]
            value = [other for other in others if is_over_earlier(other)][0].value_in(values)
            steps += 1 + sum(value is not None and row[own] == value for row in rows[alias])
    return steps


class RandomTest(MeasureCase):
    def test_random_queries(self):
        by_index = 0
        for seed in range(120):
            chance = random.Random(seed)
            base = random_sources(chance)
            base.define(A, View("w", f"(select (items (n x.n) (s y.s)) (from (x v) (y u)) (where {random_where(chance, ['x', 'y'])}))"))
            aliases = chance.sample("wxyz", chance.choice([1, 2, 2, 3]))
            sources = " ".join(f"{alias}={chance.choice(['t', 't', 'u', 'u:-', 'v', 'w'])}" for alias in aliases)
            query = select(sources, random_where(chance, aliases))
            for label in (A, AB):
                world = base.world(label)
                self.takes(world, query, model_steps(world, query))
                by_index += any(way is not None for _, way in best_plan(world, query))
        self.assertGreater(by_index, 4)

    def test_what_is_not_below_makes_no_difference(self):
        for seed in range(30):
            chance = random.Random(seed)
            base = random_sources(chance)
            query = select("x=t y=u z=v", random_where(chance, ["x", "y", "z"]))
            told = measure(base.world(A), query)
            filled(base, 20, 7, "t:-", B)
            filled(base, 20, 9, "u:-", AB)
            base.define(B, Index("q", "t", "n"))
            base.define(AB, table("t", "k:int", "n:int?"))
            self.assertEqual(measure(base.world(A), query), told)


if __name__ == "__main__":
    unittest.main()
