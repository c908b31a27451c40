"""[17], [18]: combinations, answers and what they rest on."""

import functools
import itertools
import random
import unittest

from aboveless.answers import answer, basis
from aboveless.entries import View
from aboveless.joining import combinations
from aboveless.queries import Query
from tests.helpers import end_of, error_of, every_kind, exact
from tests.samples import A, AB, B, LOW, base_of, put, table

T = table("t", "k:text", "n:int?", "s:text?", "b:truth?")
U = table("u", "k:int", "t:text?")
ROWS = (
    (LOW, "t:-", ("x", 5, "one", True)), (LOW, "t:-", ("y", None, "two", False)), (A, "t:-", ("a", 5, None, None)),
    (A, "t:-", ("b", -7, "one", True)), (LOW, "t:-", ("z", 5, "Two", False)),
    (LOW, "u:-", (10, "x")), (LOW, "u:-", (9, "y")), (A, "u:-", (-1, None)), (A, "u:-", (2, "x")),
)


def sample(*entries):
    return put(base_of(T, U, *entries), *ROWS)


def view(name, text, label=A):
    return (label, View(name, text))


class AnswerCase(unittest.TestCase):
    def answers(self, text, expected, world=None):
        world = sample().world(A) if world is None else world
        query = Query(text)
        self.assertEqual(exact(answer(world, query)), exact(expected))
        self.assertEqual(exact(answer(world, query)), exact(expected))

    def rests_on(self, text, expected, world=None):
        world = sample().world(A) if world is None else world
        query = Query(text)
        self.assertEqual([basis(world, query, at) for at in range(len(expected))], expected)
        self.assertEqual(error_of(basis, world, query, len(expected)), ("InvalidCount", len(expected)))


class JoinTest(AnswerCase):
    def test_one_source(self):
        self.answers("(select (items (k x.k) (n x.n)) (from (x t)))",
                     [("a", 5), ("b", -7), ("x", 5), ("y", None), ("z", 5)])
        self.answers("(select (items (k x.k)) (from (x u)))", [(-1,), (2,), (9,), (10,)])
        self.answers("(select (items (k x.k)) (from (x u:-)))", [(9,), (10,)], sample().world(LOW))

    def test_items_are_expressions(self):
        self.answers("(select (items (a (add x.k 1)) (b 'c') (c (none int)) (d (less x.k 5)) (e 7)) (from (x u)))",
                     [(0, "c", None, True, 7), (3, "c", None, True, 7), (10, "c", None, False, 7), (11, "c", None, False, 7)])
        self.answers("(select (items (a true) (b 1)) (from (x u)) (where (same x.k 2)))", [(True, 1)])

    def test_where(self):
        self.answers("(select (items (k x.k)) (from (x t)) (where (less 0 x.n)))", [("a",), ("x",), ("z",)])
        self.answers("(select (items (k x.k)) (from (x t)) (where x.b))", [("b",), ("x",)])
        self.answers("(select (items (k x.k)) (from (x t)) (where (not x.b)))", [("y",), ("z",)])
        self.answers("(select (items (k x.k)) (from (x t)) (where false))", [])
        self.answers("(select (items (k x.k)) (from (x t)) (where (none truth)))", [])
        self.answers("(select (items (k x.k)) (from (x u)) (where true))", [(-1,), (2,), (9,), (10,)])

    def test_two_sources(self):
        self.answers("(select (items (k x.k) (n y.k)) (from (x t) (y u)) (where (same x.k y.t)))",
                     [("x", 2), ("x", 10), ("y", 9)])
        self.answers("(select (items (k x.k) (n y.k)) (from (y u) (x t)) (where (same x.k y.t)))",
                     [("x", 2), ("y", 9), ("x", 10)])

    def test_a_source_with_itself(self):
        self.answers("(select (items (a x.k) (b y.k)) (from (x u) (y u)) (where (less x.k y.k)))",
                     [(-1, 2), (-1, 9), (-1, 10), (2, 9), (2, 10), (9, 10)])

    def test_three_and_four_sources(self):
        expected = [(a, b, c) for a in (-1, 2, 9, 10) for b in (-1, 2, 9, 10) for c in ("a", "b", "x", "y", "z")]
        self.answers("(select (items (a x.k) (b y.k) (c z.k)) (from (x u) (y u) (z t)))", expected)
        text = "(select (items (a w.k) (b x.k) (c y.k) (d z.k)) (from (w u) (x u) (y u) (z u)))"
        self.answers(text, list(itertools.product((-1, 2, 9, 10), repeat=4)))

    def test_a_source_without_rows(self):
        world = base_of(T, U).world(LOW)
        self.answers("(select (items (k x.k)) (from (x t)))", [], world)
        world = put(base_of(T, U), (LOW, "u:-", (1, None))).world(LOW)
        self.answers("(select (items (k y.k)) (from (y u) (x t)))", [], world)

    def test_combinations(self):
        world = sample().world(A)
        query = Query("(select (items (k 1)) (from (y u) (x t)) (where (same x.k y.t)))")
        expected = [((2, "x"), ROWS[0][2]), ((9, "y"), ROWS[1][2]), ((10, "x"), ROWS[0][2])]
        self.assertEqual(exact(list(combinations(world, query))), exact(expected))
        self.assertEqual(list(combinations(world=world, query=query)), expected)
        query = Query("(select (items (k 1)) (from (x u)) (where (less x.k 5)) (order (down k)) (limit 1))")
        self.assertEqual(list(combinations(world, query)), [((-1, None),), ((2, "x"),)])
        query = Query("(select (items (k (count))) (from (x u) (y u)) (group))")
        rows = [(-1, None), (2, "x"), (9, "y"), (10, "x")]
        self.assertEqual(list(combinations(world, query)), list(itertools.product(rows, repeat=2)))

    def test_combinations_of_views(self):
        world = sample(view("v", "(select (items (s x.s) (n x.n)) (from (x t)) (order (down s)) (limit 4))")).world(A)
        query = Query("(select (items (k 1)) (from (y v)))")
        expected = [(("two", None),), (("one", -7),), (("one", 5),), (("Two", 5),)]
        self.assertEqual(list(combinations(world, query)), expected)

    def test_combinations_is_a_generator(self):
        made = combinations(sample().world(A), Query("(select (items (k 1)) (from (y w)))"))
        self.assertEqual(error_of(next, made), ("UnknownSource", "w"))
        made = combinations(sample().world(A), Query("(select (items (k 1)) (from (y u)))"))
        self.assertEqual(next(made), ((-1, None),))


class GroupTest(AnswerCase):
    def test_groups_with_empty_values(self):
        self.answers("(select (items (n x.n) (c (count))) (from (x t)) (group x.n))", [(None, 1), (-7, 1), (5, 3)])
        self.answers("(select (items (c (count)) (s x.s)) (from (x t)) (group x.s))",
                     [(1, None), (1, "Two"), (2, "one"), (1, "two")])
        self.answers("(select (items (b x.b) (c (count))) (from (x t)) (group x.b))", [(None, 1), (False, 2), (True, 2)])

    def test_groups_of_expressions(self):
        self.answers("(select (items (c (count)) (e (less x.n 0))) (from (x t)) (group (less x.n 0)))",
                     [(1, None), (3, False), (1, True)])
        self.answers("(select (items (c (count))) (from (x t)) (group (less x.n 0) x.s))",
                     [(1,), (1,), (1,), (1,), (1,)])
        self.answers("(select (items (s x.s) (n x.n)) (from (x t)) (group x.n x.s))",
                     [("two", None), ("one", -7), (None, 5), ("Two", 5), ("one", 5)])
        self.answers("(select (items (a 1) (b 'q')) (from (x t)) (group 'q' 1))", [(1, "q")])

    def test_groups_without_expressions(self):
        self.answers("(select (items (c (count)) (s (sum x.n)) (l (least x.n)) (g (greatest x.n))) (from (x t)) (group))",
                     [(5, 8, -7, 5)])
        text = "(select (items (c (count)) (s (sum x.n)) (l (least x.n)) (g (greatest x.s))) (from (x t)) (where false) (group))"
        self.answers(text, [(0, 0, None, None)])
        self.answers(text.replace("(group)", "(group x.n)"), [])
        self.answers(text.replace("(group)", "(group 1)"), [])

    def test_empty_values_in_items(self):
        self.answers("(select (items (s (sum x.n)) (l (least x.s)) (g (greatest x.s)) (n (greatest x.n))) (from (x t)) "
                     "(group x.b))", [(5, None, None, 5), (5, "Two", "two", 5), (-2, "one", "one", 5)])
        self.answers("(select (items (s (sum x.n)) (l (least x.n)) (c (count))) (from (x t)) (where (not (filled x.n))) (group))",
                     [(0, None, 1)])

    def test_least_and_greatest(self):
        self.answers("(select (items (a (least x.k)) (b (greatest x.k)) (c (least x.t)) (d (greatest x.t))) (from (x u)) (group))",
                     [(-1, 10, "x", "y")])
        self.answers("(select (items (a (least (size x.s))) (b (greatest (cat x.k x.s)))) (from (x t)) (group))",
                     [(3, "zTwo")])

    def test_a_sum_beyond_thirty_digits(self):
        most = 10 ** 30 - 1
        base = put(base_of(U), *[(LOW, "u:-", (key, None)) for key in (most, most - 1, 1)])
        text = "(select (items (s (sum x.k))) (from (x u)) (where %s) (group))"
        self.answers(text.replace("%s", "true"), [(None,)], base.world(LOW))
        self.answers(text.replace("%s", "(less 1 x.k)"), [(None,)], base.world(LOW))
        self.answers(text.replace("%s", f"(not (same x.k {most - 1}))"), [(None,)], base.world(LOW))
        self.answers(text.replace("%s", f"(less x.k {most})"), [(most,)], base.world(LOW))
        put(base, (LOW, "u:-", (-most, None)))
        self.answers(text.replace("%s", "true"), [(most,)], base.world(LOW))

    def test_groups_of_joins(self):
        self.answers("(select (items (k x.k) (c (count)) (s (sum y.k))) (from (x t) (y u)) (where (same x.k y.t)) (group x.k))",
                     [("x", 2, 12), ("y", 1, 9)])


class OrderTest(AnswerCase):
    def test_up_and_down(self):
        self.answers("(select (items (n x.n) (k x.k)) (from (x t)) (order (up n)))",
                     [(None, "y"), (-7, "b"), (5, "a"), (5, "x"), (5, "z")])
        self.answers("(select (items (n x.n) (k x.k)) (from (x t)) (order (down n)))",
                     [(5, "a"), (5, "x"), (5, "z"), (-7, "b"), (None, "y")])
        self.answers("(select (items (s x.s)) (from (x t)) (order (up s)))", [(None,), ("Two",), ("one",), ("one",), ("two",)])
        self.answers("(select (items (s x.s)) (from (x t)) (order (down s)))", [("two",), ("one",), ("one",), ("Two",), (None,)])
        self.answers("(select (items (b x.b)) (from (x t)) (order (up b)))", [(None,), (False,), (False,), (True,), (True,)])
        self.answers("(select (items (b x.b)) (from (x t)) (order (down b)))", [(True,), (True,), (False,), (False,), (None,)])

    def test_several_names(self):
        self.answers("(select (items (n x.n) (k x.k)) (from (x t)) (order (down n) (down k)))",
                     [(5, "z"), (5, "x"), (5, "a"), (-7, "b"), (None, "y")])
        self.answers("(select (items (b x.b) (n x.n) (k x.k)) (from (x t)) (order (up b) (up n) (down k)))",
                     [(None, 5, "a"), (False, None, "y"), (False, 5, "z"), (True, -7, "b"), (True, 5, "x")])

    def test_ties(self):
        self.answers("(select (items (c 1) (a x.k) (b y.k)) (from (x u) (y u)) (where (less x.k y.k)) (order (down c)) (limit 4))",
                     [(1, -1, 2), (1, -1, 9), (1, -1, 10), (1, 2, 9)])
        self.answers("(select (items (s x.s) (k y.k)) (from (y u) (x t)) (where (less y.k 3)) (order (down s)) (limit 4))",
                     [("two", -1), ("two", 2), ("one", -1), ("one", -1)])
        self.answers("(select (items (c (count)) (n x.n)) (from (x t)) (group x.n) (order (down c)))", [(3, 5), (1, None), (1, -7)])
        self.answers("(select (items (c (count)) (n x.n)) (from (x t)) (group x.n) (order (up c)))", [(1, None), (1, -7), (3, 5)])
        self.answers("(select (items (c (count)) (s x.s) (n x.n)) (from (x t)) (group x.b x.n x.s) (order (down c)))", [
            (1, None, 5), (1, "two", None), (1, "Two", 5), (1, "one", -7), (1, "one", 5)])

    def test_limits(self):
        text = "(select (items (k x.k)) (from (x u)) (order (down k)) (limit 2))"
        self.answers(text, [(10,), (9,)])
        self.answers(text.replace("limit 2", "limit 0"), [])
        self.answers(text.replace("limit 2", "limit 1"), [(10,)])
        self.answers(text.replace("limit 2", "limit 4"), [(10,), (9,), (2,), (-1,)])
        self.answers(text.replace("limit 2", "limit 1000"), [(10,), (9,), (2,), (-1,)])
        self.answers("(select (items (c (count))) (from (x u)) (group) (limit 1))", [(4,)])
        self.answers("(select (items (c (count))) (from (x u)) (group) (limit 0))", [])


NESTED = (
    view("v", "(select (items (s x.s) (n x.n) (k x.k)) (from (x t)) (order (down s)) (limit 4))", LOW),
    view("w", "(select (items (s y.s) (c (count)) (m (greatest y.k))) (from (y v)) (group y.s) (order (up c) (down s)))"),
    view("z", "(select (items (t cat.s) (c cat.c) (k u.k)) (from (cat w) (u u)) (where (less cat.c u.k)) (order (down k)))"),
)


class ViewTest(AnswerCase):
    def test_views_over_views(self):
        world = sample(*NESTED).world(A)
        self.answers("(select (items (a v.s) (b v.n) (c v.k)) (from (v v)))",
                     [("two", None, "y"), ("one", -7, "b"), ("one", 5, "x"), ("Two", 5, "z")], world)
        self.answers("(select (items (a w.s) (b w.c) (c w.m)) (from (w w)))",
                     [("two", 1, "y"), ("Two", 1, "z"), ("one", 2, "x")], world)
        self.answers("(select (items (a z.t) (b z.k)) (from (z z)))", [
            ("two", 10), ("Two", 10), ("one", 10), ("two", 9), ("Two", 9), ("one", 9), ("two", 2), ("Two", 2)], world)

    def test_the_answer_of_a_view_is_of_the_world(self):
        base = sample(*NESTED)
        text = "(select (items (a v.s) (c v.k)) (from (v v)))"
        self.answers(text, [("two", "y"), ("one", "x"), ("Two", "z")], base.world(LOW))
        self.answers(text, [("two", "y"), ("one", "x"), ("Two", "z")], base.world(B))
        base.mark_gone(A, "t:-", "x")
        self.answers(text, [("two", "y"), ("one", "b"), ("Two", "z"), (None, "a")], base.world(AB))

    def test_rows_of_views_are_in_the_sequence_of_their_answers(self):
        world = sample(*NESTED).world(A)
        self.answers("(select (items (k v.k) (u u.k)) (from (v v) (u u)) (where (less 8 u.k)))", [
            ("y", 9), ("y", 10), ("b", 9), ("b", 10), ("x", 9), ("x", 10), ("z", 9), ("z", 10)], world)
        self.answers("(select (items (c 0) (k v.k)) (from (v v)) (order (up c)))", [(0, "y"), (0, "b"), (0, "x"), (0, "z")], world)

    def test_equal_rows_of_a_view(self):
        world = sample(view("v", "(select (items (n x.n)) (from (x t)))")).world(A)
        self.answers("(select (items (n v.n)) (from (v v)) (order (down n)))", [(5,), (5,), (5,), (-7,), (None,)], world)
        self.answers("(select (items (c (count))) (from (v v) (w v:a)) (where (same v.n w.n)) (group))", [(10,)], world)

    def test_names_mean_what_stands(self):
        world = sample(view("u", "(select (items (k x.n)) (from (x t)) (where (less x.n 0)))")).world(A)
        self.answers("(select (items (k x.k)) (from (x u)))", [(-7,)], world)
        self.answers("(select (items (k x.k)) (from (x u:-)) (limit 1))", [(-1,)], world)


class BasisTest(AnswerCase):
    def test_rows(self):
        self.rests_on("(select (items (k x.k)) (from (x u)))", [[("u:-", -1)], [("u:-", 2)], [("u:-", 9)], [("u:-", 10)]])
        self.rests_on("(select (items (k 1)) (from (x t) (y u)) (where (same x.k y.t)))",
                      [[("t:-", "x"), ("u:-", 2)], [("t:-", "x"), ("u:-", 10)], [("t:-", "y"), ("u:-", 9)]])
        self.rests_on("(select (items (k 1)) (from (y u) (x u)) (where (not (less x.k y.k))) (limit 2))",
                      [[("u:-", -1)], [("u:-", -1), ("u:-", 2)]])

    def test_order_and_limit(self):
        self.rests_on("(select (items (k x.k)) (from (x u)) (order (down k)) (limit 2))", [[("u:-", 10)], [("u:-", 9)]])
        self.rests_on("(select (items (k x.k)) (from (x u)) (limit 0))", [])
        self.rests_on("(select (items (n x.n) (c (count))) (from (x t)) (group x.n) (order (down c)) (limit 2))",
                      [[("t:-", "a"), ("t:-", "x"), ("t:-", "z")], [("t:-", "y")]])

    def test_groups(self):
        self.rests_on("(select (items (c (count))) (from (x t) (y u)) (where (same x.k y.t)) (group))",
                      [[("t:-", "x"), ("t:-", "y"), ("u:-", 2), ("u:-", 9), ("u:-", 10)]])
        self.rests_on("(select (items (c (count))) (from (x t)) (where false) (group))", [[]])

    def test_views(self):
        world = sample(*NESTED).world(A)
        self.rests_on("(select (items (s w.s)) (from (w w)))",
                      [[("t:-", "y")], [("t:-", "z")], [("t:-", "b"), ("t:-", "x")]], world)
        self.rests_on("(select (items (c (count))) (from (z z)) (where (less z.k 5)) (group))",
                      [[("t:-", "y"), ("t:-", "z"), ("u:-", 2)]], world)
        self.rests_on("(select (items (k z.k)) (from (z z)) (where (same z.t 'one')))",
                      [[("t:-", "b"), ("t:-", "x"), ("u:-", 10)], [("t:-", "b"), ("t:-", "x"), ("u:-", 9)]], world)

    def test_limits_within_views(self):
        world = sample(view("v", "(select (items (k x.k)) (from (x u)) (order (down k)) (limit 1))")).world(A)
        self.rests_on("(select (items (c (count))) (from (x v) (y u)) (where (less y.k 0)) (group))",
                      [[("u:-", -1), ("u:-", 10)]], world)

    def test_ids_and_keys(self):
        base = put(base_of(table("t", "k:int"), (A, table("t", "k:int"))), (A, "t:a", (1,)), (A, "t:-", (1,)), (A, "t:a", (-5,)))
        self.rests_on("(select (items (c (count))) (from (x t) (y t:-)) (group))",
                      [[("t:-", 1), ("t:a", -5), ("t:a", 1)]], base.world(A))

    def test_positions(self):
        world, query = sample().world(A), Query("(select (items (k x.k)) (from (x u)))")
        self.assertEqual(basis(world=world, query=query, position=3), [("u:-", 10)])
        for value in every_kind() + [4, 5, -1, -4]:
            if exact(value) not in (("int", 0), ("int", 1)):
                told = error_of(basis, world, query, value)
                self.assertEqual(told[0], "InvalidCount")
                self.assertIs(told[1], value)
        empty = Query("(select (items (k x.k)) (from (x u)) (limit 0))")
        self.assertEqual(error_of(basis, world, empty, 0), ("InvalidCount", 0))

    def test_what_is_returned_is_new(self):
        world, query = sample().world(A), Query("(select (items (k x.k)) (from (x u)))")
        for call in (lambda: answer(world=world, query=query), lambda: basis(world, query, 0)):
            first = call()
            first.append(5)
            self.assertEqual(call(), first[:-1])


class ErrorsTest(unittest.TestCase):
    def errors(self, text, expected, world=None):
        world, query = sample().world(A) if world is None else world, Query(text)
        self.assertEqual(error_of(answer, world, query), expected)
        self.assertEqual(error_of(lambda: list(combinations(world, query))), expected)
        for position in (0, -1, None, "x"):
            self.assertEqual(error_of(basis, world, query, position), expected)

    def test_unknown_sources(self):
        self.errors("(select (items (k x.q)) (from (x w)))", ("UnknownSource", "w"))
        self.errors("(select (items (k (not x.k))) (from (x u) (y w) (z v)))", ("UnknownSource", "w"))
        self.errors("(select (items (k 1)) (from (x u:a)))", ("UnknownSource", "u:a"))
        self.errors("(select (items (k 1)) (from (x t) (y u)))", ("UnknownSource", "t"), base_of(U, (A, T)).world(B))

    def test_a_view_that_does_not_stand(self):
        base = sample(*NESTED)
        base.drop(LOW, "view", "v")
        self.errors("(select (items (k 1)) (from (x u) (y w)))", ("UnknownSource", "w"), base.world(A))

    def test_columns_and_sorts(self):
        self.errors("(select (items (k x.q) (n (not x.k))) (from (x u)))", ("UnknownColumn", "x.q"))
        self.errors("(select (items (n (not x.k)) (k x.q)) (from (x u)))", ("WrongSort", ("items", 0)))
        self.errors("(select (items (k x.q)) (from (x u)) (where x.k))", ("WrongSort", ("where", 0)))
        self.errors("(select (items (c (sum x.t))) (from (x u)) (group (size x.k)))", ("WrongSort", ("group", 0)))
        self.errors("(select (items (c (count)) (d (sum x.t))) (from (x u)) (group))", ("WrongSort", ("items", 1)))
        self.errors("(select (items (d (least (less x.k 1)))) (from (x u)) (group))", ("WrongSort", ("items", 0)))
        self.errors("(select (items (k x.n)) (from (x v)))", ("UnknownColumn", "x.n"),
                    sample(view("v", "(select (items (k x.n)) (from (x t)))")).world(A))

    def test_errors_come_also_without_rows(self):
        self.errors("(select (items (k (not x.k))) (from (x u)) (limit 0))", ("WrongSort", ("items", 0)), base_of(U).world(A))


def rank(value):
    return (0, 0) if value is None else (("bool", "int", "str").index(type(value).__name__) + 1, value)


def compared(first, second, orders):
    """Less than, equal to or greater than 0, by several values, each up or down."""
    for (value, other), is_up in zip(zip(first, second), orders):
        if rank(value) != rank(other):
            return (-1 if rank(value) < rank(other) else 1) * (1 if is_up else -1)
    return 0


def model_source(world, source):
    found = world.source_id(source)
    name, _, text = found.partition(":")
    for kind, known, label in world.entries("view"):
        if (known, str(label)) == (name, text):
            return model_answer(world, Query(world.entry(kind, known, label).told()[2]))
    return [(row, {(found, key)}) for key, row, label in world.rows(found)]


def model_answer(world, query):
    """The rows of an answer with the sets of their bases, by the words of the document."""
    sides = [model_source(world, source) for _, source in query.sources()]
    chosen = []
    for places in itertools.product(*[range(len(side)) for side in sides]):
        values, rests = {}, set()
        for (alias, source), side, at in zip(query.sources(), sides, places):
            names = [f"{alias}.{column[0]}" for column in world.columns(source)]
            values.update(zip(names, side[at][0]))
            rests |= side[at][1]
        if query.where() is None or query.where().value_in(values) is True:
            chosen.append((values, rests, places))
    made = []
    if not query.is_grouped:
        for values, rests, places in chosen:
            made.append((tuple(item[2].value_in(values) for item in query.item_list()), rests, places))
    else:
        groups = {}
        for values, rests, places in chosen:
            given = tuple(group.value_in(values) for group in query.groups())
            groups.setdefault(tuple(map(rank, given)), (given, []))[1].append((values, rests))
        if not query.groups():
            groups.setdefault((), ((), []))
        for given, members in groups.values():
            row = []
            for _, word, part in query.item_list():
                if word == "value":
                    row.append(given[[group.text for group in query.groups()].index(part.text)])
                    continue
                full = [] if word == "count" else [part.value_in(values) for values, _ in members]
                full = [value for value in full if value is not None]
                results = {"count": len(members), "sum": None, "least": None, "greatest": None}
                if word == "sum":
                    results["sum"] = sum(full) if abs(sum(full)) < 10 ** 30 else None
                elif full:
                    results.update(least=min(full), greatest=max(full))
                row.append(results[word])
            made.append((tuple(row), set().union(*[rests for _, rests in members]), given))
    names = [item[0] for item in query.item_list()]
    orders = query.orders()
    asked = [names.index(name) for name, _ in orders]
    ways = [is_up for _, is_up in orders] + [True] * 9
    made.sort(key=functools.cmp_to_key(lambda first, second: compared(
        [first[0][at] for at in asked] + list(first[2]), [second[0][at] for at in asked] + list(second[2]), ways)))
    return [(row, rests) for row, rests, _ in made][:query.most_rows()]


def random_query(chance, sources):
    """A random query; sources are tuples (text, columns), the columns of each n, k, b of fixed sorts."""
    aliases = ["p", "q", "r"][:chance.choice([1, 1, 2, 2, 3])]
    bound = " ".join(f"({alias} {chance.choice(sources)})" for alias in aliases)

    def part(sort, depth):
        column = f"{chance.choice(aliases)}.{ {'int': 'n', 'text': 'k', 'truth': 'b'}[sort] }"
        if depth == 0 or chance.random() < 0.4:
            return column
        ways = {
            "int": lambda: f"(add {part('int', depth - 1)} {part('int', depth - 1)})",
            "text": lambda: f"(pick {part('truth', depth - 1)} {part('text', depth - 1)} 'm')",
            "truth": lambda: chance.choice([
                f"(less {part('int', depth - 1)} {part('int', depth - 1)})",
                f"(same {part('text', depth - 1)} {part('text', depth - 1)})",
                f"(or {part('truth', depth - 1)} (filled {part('int', depth - 1)}))",
            ]),
        }
        return ways[sort]()

    where = f" (where {part('truth', 2)})" if chance.random() < 0.6 else ""
    groups, group = [], ""
    if chance.random() < 0.5:
        groups = [part(chance.choice(["int", "text", "truth"]), 1) for _ in range(chance.randint(0, 2))]
        group = " (group" + "".join(f" {text}" for text in groups) + ")"
        pool = groups + ["(count)", f"(sum {part('int', 1)})", f"(least {part('text', 1)})", f"(greatest {part('int', 1)})"]
        items = [chance.choice(pool) for _ in range(3)]
    else:
        items = [part("int", 1), part("text", 1), part("truth", 1)]
    order = ""
    if chance.random() < 0.6:
        names = chance.sample(["n", "k", "b"], chance.randint(1, 3))
        order = " (order" + "".join(f" ({chance.choice(['up', 'down'])} {name})" for name in names) + ")"
    limit = f" (limit {chance.randint(0, 6)})" if chance.random() < 0.4 else ""
    told = " ".join(f"({name} {text})" for name, text in zip(["n", "k", "b"], items))
    return f"(select (items {told}) (from {bound}){where}{group}{order}{limit})"


def combinations_of(world, query):
    """How many combinations a query has before WHERE."""
    many = 1
    for _, source in query.sources():
        many *= len(model_source(world, source))
    return many


class ModelTest(unittest.TestCase):
    def test_random_queries(self):
        for seed in range(150):
            chance = random.Random(seed)
            base = base_of(table("t", "k:text", "n:int?", "b:truth?"), table("s", "n:int", "k:text?", "b:truth?"))
            for at in range(chance.randint(0, 7)):
                label = chance.choice([LOW, A])
                number, truth = chance.choice([None, 0, 1, 2]), chance.choice([None, True, False])
                base.put_row(label, "t:-", (f"k{chance.randint(0, 5)}", number, truth))
                base.put_row(label, "s:-", (chance.randint(-3, 12), chance.choice(["k1", "k2", None]), truth))
            sources = ["t", "s:-"]
            for name in ("v", "w"):
                # only views whose items have the fixed sorts can be sources of others
                text = random_query(chance, sources)
                if "(group" not in text and combinations_of(base.world(A), Query(text)) <= 300:
                    base.define(LOW, View(name, text))
                    sources.append(name)
            for _ in range(4):
                query = Query(random_query(chance, sources))
                for label in (LOW, A):
                    world = base.world(label)
                    if combinations_of(world, query) > 300:
                        continue
                    expected = model_answer(world, query)
                    self.assertEqual(exact(end_of(answer, world, query)[1]), exact([row for row, _ in expected]), str(query))
                    for at, (row, rests) in enumerate(expected[:5]):
                        self.assertEqual(set(basis(world, query, at)), rests, str(query))


if __name__ == "__main__":
    unittest.main()
