"""[24]: conjuncts, plans, their estimates, and the best of them."""

import itertools
import random
import unittest

from aboveless.entries import Check, Index, View
from aboveless.expressions import Expression
from aboveless.plans import best_plan, estimate, explained, measure
from aboveless.queries import Query
from tests.helpers import error_of, exact, unchanged
from tests.samples import A, AB, B, LOW, base_of, put, table

T = table("t", "k:int", "n:int?", "s:text?", "b:truth?")
U = table("u", "k:text", "n:int?", "s:text?", "b:truth?")
VIEW = View("v", "(select (items (n x.n) (s x.s)) (from (x t)))")
I, J, K = ("i", LOW), ("j", LOW), ("k", LOW)


def select(sources, where=None, items="(k 1)"):
    bound = " ".join(f"({pair.replace('=', ' ')})" for pair in sources.split())
    return Query(f"(select (items {items}) (from {bound}){'' if where is None else f' (where {where})'})")


def filled(base, many, different=3, source="t:-", label=LOW):
    """Puts many rows into t or u, with so many different values in n and in s."""
    for at in range(many):
        value = at % different
        base.put_row(label, source, (at if source == "t:-" else f"k{at}", value, f"s{value}", value == 0))
    return base


class PlanCase(unittest.TestCase):
    def best(self, world, query, expected):
        for _ in range(2):
            self.assertEqual(exact(unchanged(self, best_plan, world, query)), exact(expected))
        self.assertEqual(best_plan(world=world, query=query), expected)

    def explains(self, world, query, *expected):
        for _ in range(2):
            self.assertEqual(explained(world, query), list(expected))
        self.assertEqual(explained(world=world, query=query), list(expected))

    def estimates(self, world, query, plan, expected):
        for given in (plan, tuple(plan)):
            for _ in range(2):
                self.assertEqual(unchanged(self, estimate, world, query, given), expected)
        self.assertEqual(estimate(world=world, query=query, plan=plan), expected)


class UsableTest(PlanCase):
    """Whether an index is usable shows in the plan, since it is always cheaper here."""

    def setUp(self):
        self.base = filled(base_of(T, U, VIEW, Index("i", "t", "n")), 16, 16)

    def used(self, where, sources="x=t", expected=True):
        plan = dict(best_plan(self.base.world(LOW), select(sources, where)))
        self.assertEqual(plan["x"], I if expected else None, where)

    def test_both_parts(self):
        self.used("(same x.n 3)")
        self.used("(same 3 x.n)")
        self.used("(same x.n (add 1 2))")
        self.used("(same (none int) x.n)")

    def test_other_parts(self):
        self.used("(same x.n x.k)", expected=False)
        self.used("(same x.n x.n)", expected=False)
        self.used("(same x.n (add x.n 0))", expected=False)
        self.used("(same (add x.n 1) 3)", expected=False)
        self.used("(same x.k 3)", expected=False)
        self.used("(less x.n 3)", expected=False)
        self.used("(not (same x.n 3))", expected=False)
        self.used("(or (same x.n 3) (same x.n 4))", expected=False)
        self.used("(same (same x.n 3) true)", expected=False)
        self.used("(same x.s 'a')", expected=False)
        self.used(None, expected=False)

    def test_conjuncts(self):
        self.used("(and (same x.n 3) (less x.k 5))")
        self.used("(and (less x.k 5) (same x.n 3))")
        self.used("(and (and (less x.k 5) (less x.k 6)) (and (less x.k 7) (same x.n 3)))")
        self.used("(and (and (and (same x.n 3) true) true) true)")
        self.used("(and true (and true (and true (same x.n 3))))")
        self.used("(and (same x.n x.k) (same x.n 3))")
        self.used("(or (and (same x.n 3) true) true)", expected=False)
        self.used("(not (and (same x.n 3) true))", expected=False)
        self.used("(and (less x.k 5) (not (same x.n 3)))", expected=False)

    def test_other_sources(self):
        filled(self.base, 2, 2, "u:-")
        self.used("(same x.n y.n)", "x=t y=u")
        self.used("(same y.n x.n)", "y=u x=t")
        self.used("(same x.n (add y.n x.k))", "x=t y=u", expected=False)
        # y has no index, so it is read first, and x by the index of its own alias
        self.assertEqual(best_plan(self.base.world(LOW), select("x=t y=u", "(same x.n y.n)")), [("y", None), ("x", I)])
        self.assertEqual(best_plan(self.base.world(LOW), select("x=t y=u", "(same y.n 3)")), [("y", None), ("x", None)])

    def test_views_have_no_index(self):
        self.best(self.base.world(LOW), select("x=v", "(same x.n 3)"), [("x", None)])
        self.best(self.base.world(LOW), select("x=v:-", "(same x.n 3)"), [("x", None)])

    def test_columns_of_the_same_name(self):
        self.base.define(LOW, Index("m", "u", "k"))
        filled(self.base, 16, 16, "u:-")
        self.best(self.base.world(LOW), select("x=t y=u", "(same x.k 3)"), [("x", None), ("y", None)])
        self.best(self.base.world(LOW), select("x=t y=u", "(same y.k 'k3')"), [("y", ("m", LOW)), ("x", None)])

    def test_sources_written_as_ids_and_names(self):
        self.used("(same x.n 3)", "x=t:-")
        self.base.define(A, table("t", "k:int", "n:int?"))
        self.best(self.base.world(A), select("x=t", "(same x.n 3)"), [("x", None)])
        self.best(self.base.world(A), select("x=t:-", "(same x.n 3)"), [("x", I)])
        self.best(self.base.world(A), select("x=t:-  y=t:a", "(same x.n 3)"), [("y", None), ("x", None)])

    def test_labels(self):
        self.base.define(A, Index("i", "t", "k"))
        self.base.define(B, Index("z", "t", "k"))
        self.best(self.base.world(A), select("x=t", "(same x.k 3)"), [("x", ("i", A))])
        self.best(self.base.world(LOW), select("x=t", "(same x.k 3)"), [("x", None)])
        self.best(self.base.world(AB), select("x=t", "(same x.k 3)"), [("x", ("i", A))])
        self.best(self.base.world(B), select("x=t", "(same x.k 3)"), [("x", ("z", B))])

    def test_a_suspended_index(self):
        self.base.define(A, Index("m", "t", "s"))
        self.best(self.base.world(A), select("x=t", "(same x.s 's3')"), [("x", ("m", A))])
        for kind, name in (("view", "v"), ("index", "i"), ("table", "t")):
            self.base.drop(LOW, kind, name)
        self.base.define(LOW, table("t", "k:int", "n:int?"))
        self.assertEqual(self.base.world(A).suspended_entries(), [("index", "m", A, ("sort",))])
        self.best(self.base.world(A), select("x=t", "(same x.n 3)"), [("x", None)])


class EstimateTest(PlanCase):
    def test_scans(self):
        for many, rounded in ((0, 0), (1, 1), (2, 2), (3, 4), (5, 8), (16, 16), (17, 32)):
            world = filled(base_of(T), many).world(LOW)
            self.estimates(world, select("x=t"), [("x", None)], rounded)
            self.explains(world, select("x=t"), f"x scan t:- reads {rounded} matches {rounded}", f"estimate {rounded}")

    def test_indexes(self):
        # rows, different values, estimated reads and matches
        cases = ((0, 1, 1, 0), (1, 1, 2, 1), (5, 1, 9, 8), (5, 2, 5, 4), (5, 3, 3, 2), (5, 5, 2, 1), (16, 9, 2, 1), (9, 3, 5, 4))
        for many, different, reads, matches in cases:
            world = filled(base_of(T, Index("i", "t", "n")), many, different).world(LOW)
            query = select("x=t", "(same x.n 1)")
            self.estimates(world, query, [("x", I)], reads)
            if reads < estimate(world, query, [("x", None)]):
                self.explains(world, query, f"x by i:- t:- reads {reads} matches {matches}", f"estimate {reads}")

    def test_a_column_without_values(self):
        base = base_of(T, Index("i", "t", "n"))
        put(base, *[(LOW, "t:-", (key, None, None, None)) for key in range(3)])
        self.explains(base.world(LOW), select("x=t", "(same x.n 1)"), "x by i:- t:- reads 1 matches 0", "estimate 1")

    def test_an_empty_table(self):
        world = base_of(T, Index("i", "t", "n")).world(LOW)
        self.explains(world, select("x=t", "(same x.n 1)"), "x scan t:- reads 0 matches 0", "estimate 0")
        self.explains(world, select("x=t y=t", "(same x.n 1)"), "x scan t:- reads 0 matches 0",
                      "y scan t:- reads 0 matches 0", "estimate 0")

    def test_views(self):
        for many in (0, 1, 20):
            base = filled(base_of(T, VIEW), many)
            self.explains(base.world(LOW), select("x=v"), "x scan v:- reads 16 matches 16", "estimate 16")
            self.estimates(base.world(LOW), select("x=v y=v"), [("y", None), ("x", None)], 16 + 16 * 16)

    def test_products(self):
        base = base_of(T, U, VIEW, Index("i", "t", "n"), Index("j", "u", "s"))
        filled(filled(base, 5, 2), 3, 3, "u:-")
        world = base.world(LOW)
        query = select("x=t y=u z=v", "(and (same x.n z.n) (same y.s x.s))")
        self.estimates(world, query, [("x", None), ("y", None), ("z", None)], 8 + 8 * 4 + 8 * 4 * 16)
        self.estimates(world, query, [("z", None), ("x", I), ("y", J)], 16 + 16 * 5 + 16 * 4 * 2)
        self.estimates(world, query, [("z", None), ("y", None), ("x", I)], 16 + 16 * 4 + 16 * 4 * 5)
        self.estimates(world, query, [("z", None), ("x", I), ("y", None)], 16 + 16 * 5 + 16 * 4 * 4)
        self.best(world, query, [("x", None), ("y", J), ("z", None)])
        self.explains(world, query, "x scan t:- reads 8 matches 8", "y by j:- u:- reads 2 matches 1",
                      "z scan v:- reads 16 matches 16", f"estimate {8 + 8 * 2 + 8 * 16}")

    def test_rows_that_stand(self):
        base = filled(base_of(T, Index("i", "t", "n")), 9, 9)
        base.define(A, Check("c", "t", "(less k 2)"))
        query = select("x=t", "(same x.n 1)")
        self.estimates(base.world(LOW), query, [("x", None)], 16)
        self.estimates(base.world(A), query, [("x", None)], 2)
        base.put_row(AB, "t:-", (1, 0, None, None))
        self.estimates(base.world(AB), query, [("x", I)], 3)
        self.estimates(base.world(A), query, [("x", I)], 2)


class BestTest(PlanCase):
    def test_the_least_estimate(self):
        base = filled(filled(base_of(T, U, Index("i", "t", "n")), 9, 9), 2, 2, "u:-")
        world = base.world(LOW)
        self.best(world, select("x=t y=u"), [("y", None), ("x", None)])
        self.best(world, select("x=t y=u", "(same x.n 1)"), [("x", I), ("y", None)])
        self.explains(world, select("x=t y=u"), "y scan u:- reads 2 matches 2", "x scan t:- reads 16 matches 16", "estimate 34")

    def test_ties_of_sequences(self):
        world = filled(base_of(T), 4).world(LOW)
        for sources, expected in (("x=t y=t z=t", "xyz"), ("z=t y=t x=t", "zyx"), ("d=t a=t c=t b=t", "dacb")):
            self.best(world, select(sources), [(alias, None) for alias in expected])

    def test_ties_of_sequences_with_indexes(self):
        world = filled(base_of(T, Index("i", "t", "n")), 8, 8).world(LOW)
        self.best(world, select("y=t x=t", "(same x.n y.n)"), [("y", None), ("x", I)])
        self.best(world, select("x=t y=t", "(same x.n y.n)"), [("x", None), ("y", I)])
        self.best(world, select("y=t z=t x=t", "(same x.n z.n)"), [("z", None), ("x", I), ("y", None)])

    def test_ties_of_ways(self):
        base = base_of(T, Index("j", "t", "n"), Index("i", "t", "n"), (A, Index("a", "t", "n")))
        world = filled(base, 8, 8).world(A)
        self.best(world, select("x=t", "(same x.n 1)"), [("x", J)])
        # one row: a scan takes 1, an index 2
        self.best(filled(base_of(T, Index("i", "t", "n")), 1).world(A), select("x=t", "(same x.n 1)"), [("x", None)])
        # two rows, two values: both take 2, a scan is first
        self.best(filled(base_of(T, Index("i", "t", "n")), 2, 2).world(A), select("x=t", "(same x.n 1)"), [("x", None)])

    def test_catalog_order_counts_not_the_names_or_columns(self):
        base = base_of(T, Index("z", "t", "s"), Index("b", "t", "n"), (A, Index("c", "t", "n")))
        world = filled(base, 8, 8).world(A)
        where = "(and (same x.n 1) (same x.s 's1'))"
        self.best(world, select("x=t", where), [("x", ("z", LOW))])
        self.best(world, select("x=t", "(and (same x.s 's1') (same x.n 1))"), [("x", ("z", LOW))])

    def test_ties_behind_no_matches(self):
        # the first source has no matches, so nothing behind it costs anything: in the sequence of FROM, by scan
        base = filled(filled(base_of(T, U, Index("i", "t", "n"), Index("j", "u", "n")), 0), 9, 9, "u:-")
        world = base.world(LOW)
        self.best(world, select("x=t y=u z=u", "(and (same y.n x.n) (same z.n 2))"), [("x", None), ("y", None), ("z", None)])
        self.best(world, select("z=u y=u x=t", "(and (same y.n x.n) (same z.n 2))"), [("x", None), ("z", None), ("y", None)])

    def test_a_worse_start_for_a_better_rest(self):
        # by the index x has fewer matches, although its reads are the same as by scan
        base = filled(base_of(T, U, Index("i", "t", "n")), 2, 2)
        world = filled(base, 9, 3, "u:-").world(LOW)
        self.best(world, select("x=t y=u", "(same x.n 1)"), [("x", I), ("y", None)])
        self.explains(world, select("x=t y=u", "(same x.n 1)"), "x by i:- t:- reads 2 matches 1",
                      "y scan u:- reads 16 matches 16", "estimate 18")

    def test_what_is_not_below_makes_no_difference(self):
        base = filled(base_of(T, U, Index("i", "t", "n")), 5, 2)
        filled(base, 3, 3, "u:-")
        query = select("x=t y=u", "(and (same x.n y.n) (same y.s 'a'))")
        told = explained(base.world(A), query)
        filled(base, 30, 20, "t:-", B)
        filled(base, 30, 1, "u:-", AB)
        base.define(B, Index("q", "u", "s"))
        base.define(AB, Index("p", "t", "n"))
        self.assertEqual(explained(base.world(A), query), told)
        self.assertNotEqual(explained(base.world(AB), query), told)

    def test_what_is_returned_is_new(self):
        world = filled(base_of(T), 3).world(LOW)
        best_plan(world, select("x=t")).clear()
        explained(world, select("x=t")).clear()
        self.best(world, select("x=t"), [("x", None)])
        self.explains(world, select("x=t"), "x scan t:- reads 4 matches 4", "estimate 4")


class ErrorsTest(unittest.TestCase):
    def test_the_errors_of_answer(self):
        world = base_of(T).world(LOW)
        cases = (
            (select("x=w"), ("UnknownSource", "w")), (select("x=t", "x.q"), ("UnknownColumn", "x.q")),
            (select("x=t", "x.n"), ("WrongSort", ("where", 0))),
            (select("x=t", None, "(k (not x.n))"), ("WrongSort", ("items", 0))),
        )
        for query, error in cases:
            self.assertEqual(error_of(best_plan, world, query), error)
            self.assertEqual(error_of(explained, world, query), error)
            self.assertEqual(error_of(estimate, world, query, [("x", None)]), error)
            for within in (None, 0, -1, "x"):
                self.assertEqual(error_of(lambda: measure(world, query, within=within)), error)


def rounded(count):
    return 0 if count == 0 else 1 << (count - 1).bit_length()


def model_conjuncts(text):
    parts = Expression(text).parts()
    return [text] if parts[:1] != ["and"] else model_conjuncts(parts[1]) + model_conjuncts(parts[2])


class Model:
    """Plans and their estimates, by the words of the document."""

    def __init__(self, world, query):
        self.world, self.query = world, query
        self.sources = dict(query.sources())
        self.indexes = [world.entry(*told).told() + (told[2],) for told in world.entries("index")]
        self.conjuncts = [] if query.where() is None else model_conjuncts(query.where().text)

    def is_usable(self, alias, column, earlier):
        for conjunct in self.conjuncts:
            parts = Expression(conjunct).parts()
            if parts[:1] == ["same"] and f"{alias}.{column}" in parts[1:]:
                other = parts[2] if parts[1] == f"{alias}.{column}" else parts[1]
                if {text.split(".")[0] for text in Expression(other).columns()} <= set(earlier):
                    return True
        return False

    def ways(self, alias, earlier):
        """Tuples (way, its number, reads, matches)."""
        source = self.world.source_id(self.sources[alias])
        if source not in self.world.tables():
            return [(None, 0, 16, 16)]
        rows = [row for _, row, _ in self.world.rows(source)]
        many = rounded(len(rows))
        found = [(None, 0, many, many)]
        for at, (_, name, of, column, label) in enumerate(self.indexes):
            if of == source and self.is_usable(alias, column, earlier):
                place = [told[0] for told in self.world.columns(source)].index(column)
                different = rounded(len({row[place] for row in rows} - {None}))
                matches = 0 if many * different == 0 else (many + different - 1) // different
                found.append(((name, label), at + 1, matches + 1, matches))
        return found

    def plans(self):
        """All plans, with their ranks."""
        names = list(self.sources)
        for sequence in itertools.permutations(names):
            choices = [self.ways(alias, sequence[:at]) for at, alias in enumerate(sequence)]
            for chosen in itertools.product(*choices):
                total, product = 0, 1
                for _, _, reads, matches in chosen:
                    total, product = total + reads * product, product * matches
                rank = (total, [names.index(alias) for alias in sequence], [way[1] for way in chosen])
                yield rank, list(zip(sequence, [way[0] for way in chosen]))


def random_where(chance, aliases):
    def part(alias):
        return chance.choice([f"{alias}.n", f"{alias}.n", "1", f"(add {alias}.n 1)", "(none int)"])

    def conjunct(depth):
        if depth > 0 and chance.random() < 0.6:
            return f"(and {conjunct(depth - 1)} {conjunct(depth - 1)})"
        first, second = chance.choice(aliases), chance.choice(aliases)
        if chance.random() < 0.3:
            return f"(same {first}.s {second}.s)"
        word = chance.choice(["same", "same", "same", "less"])
        return f"({word} {part(first)} {part(second)})"

    return conjunct(3)


def random_sources(chance):
    base = base_of(T, U, VIEW, marks=("a", "b"))
    for name in chance.sample("ghijk", chance.randint(0, 4)):
        label = chance.choice([LOW, A, AB])
        base.define(label, Index(name, chance.choice(["t", "u"]), chance.choice(["n", "n", "s"])))
    for source in ("t:-", "u:-"):
        many, different = chance.choice([0, 1, 2, 3, 5, 9]), chance.randint(1, 5)
        for at in range(many):
            value = chance.choice([None] + list(range(different)))
            key = at if source == "t:-" else f"k{at}"
            base.put_row(chance.choice([LOW, A, B]), source, (key, value, chance.choice(["a", "b", None]), None))
    return base


class SearchTest(PlanCase):
    def test_all_plans(self):
        used = 0
        for seed in range(150):
            chance = random.Random(seed)
            base = random_sources(chance)
            aliases = chance.sample("wxyz", chance.choice([1, 2, 2, 3, 3, 4]))
            sources = " ".join(f"{alias}={chance.choice(['t', 't', 'u', 'u:-', 'v'])}" for alias in aliases)
            query = select(sources, random_where(chance, aliases))
            for label in (LOW, A, AB):
                world = base.world(label)
                plans = list(Model(world, query).plans())
                rank, plan = min(plans, key=lambda told: told[0])
                self.best(world, query, plan)
                self.assertEqual(explained(world, query)[-1], f"estimate {rank[0]}")
                used += any(way is not None for _, way in plan)
                for rank, plan in chance.sample(plans, min(5, len(plans))):
                    self.assertEqual(estimate(world, query, plan), rank[0])
        self.assertGreater(used, 15)


if __name__ == "__main__":
    unittest.main()
