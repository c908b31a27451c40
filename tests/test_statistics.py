"""[23]: rounded counts and the statistics of worlds."""

import unittest

from aboveless.base import Base
from aboveless.entries import Check, Index, View
from aboveless.statistics import rounded, statistics
from tests.helpers import error_of, every_kind, exact
from tests.samples import A, AB, B, LOW, base_of, put, table

T = table("t", "k:text", "n:int?", "b:truth?", "m:int?")
U = table("u", "k:int")


class RoundedTest(unittest.TestCase):
    def test_counts(self):
        for count, expected in ((0, 0), (1, 1), (2, 2), (3, 4), (4, 4), (5, 8), (6, 8), (7, 8), (8, 8), (9, 16), (1000, 1024)):
            self.assertEqual(rounded(count), expected)
            self.assertEqual(rounded(count=count), expected)

    def test_powers_of_two_and_their_neighbours(self):
        for exponent in range(2, 130):
            power = 2 ** exponent
            self.assertEqual([rounded(power - 1), rounded(power), rounded(power + 1)], [power, power, 2 * power])

    def test_other_values(self):
        for value in every_kind():
            if exact(value)[0] != "int" or value < 0:
                told = error_of(rounded, value)
                self.assertEqual(told[0], "InvalidCount")
                self.assertIs(told[1], value)


class StatisticsTest(unittest.TestCase):
    def told(self, world, expected):
        """Compares also the sequence of the keys."""
        self.assertEqual(exact(statistics(world)), exact(expected))
        self.assertEqual(exact(statistics(world=world)), exact(expected))

    def test_without_tables_and_rows(self):
        self.told(Base("a").world(A), {})
        self.told(base_of(T, (A, U), Index("i", "t", "n")).world(A), {"t:-": (0, {"n": 0}), "u:a": (0, {})})

    def test_rows_that_stand(self):
        base = base_of(U, T, (A, Check("c", "t", "(less n 100)")))
        put(base, *[(LOW, "u:-", (key,)) for key in range(5)], (A, "u:-", (9,)))
        put(base, (LOW, "t:-", ("x", 100, None, None)), (LOW, "t:-", ("y", 1, None, None)), (A, "t:-", ("z",)))
        self.told(base.world(LOW), {"u:-": (8, {}), "t:-": (2, {})})
        self.told(base.world(A), {"u:-": (8, {}), "t:-": (1, {})})
        put(base, *[(A, "u:-", (key,)) for key in range(5, 9)])
        self.told(base.world(A), {"u:-": (16, {}), "t:-": (1, {})})
        self.told(base.world(B), {"u:-": (8, {}), "t:-": (2, {})})

    def test_different_values(self):
        base = base_of(T, Index("m", "t", "m"), Index("n", "t", "n"), Index("k", "t", "k"))
        values = [5, 5, 6, None, 7, 7, None]
        put(base, *[(LOW, "t:-", (f"k{at}", value, None, 1)) for at, value in enumerate(values)])
        self.told(base.world(LOW), {"t:-": (8, {"k": 8, "n": 4, "m": 1})})
        put(base, (A, "t:-", ("k0", 8, True, None)), (A, "t:-", ("k1", 9, False, None)),
            (A, "t:-", ("k3", 10, None, None)))
        self.told(base.world(A), {"t:-": (8, {"k": 8, "n": 8, "m": 1})})
        base.define(A, Index("b", "t", "b"))
        self.told(base.world(AB), {"t:-": (8, {"k": 8, "n": 8, "b": 2, "m": 1})})
        self.told(base.world(B), {"t:-": (8, {"k": 8, "n": 4, "m": 1})})

    def test_only_empty_values(self):
        base = put(base_of(T, Index("i", "t", "n")), (LOW, "t:-", ("x", None, None, 1)))
        self.told(base.world(LOW), {"t:-": (1, {"n": 0})})

    def test_several_indexes_on_one_column(self):
        base = base_of(T, Index("i", "t", "n"), Index("j", "t", "n"), (A, Index("i", "t", "n")), (A, T), (A, Index("k", "t", "m")))
        put(base, (LOW, "t:-", ("x", 1, None, 1)), (LOW, "t:-", ("y", 2, None, 1)), (LOW, "t:-", ("z", 3, None, 1)))
        self.told(base.world(A), {"t:-": (4, {"n": 4}), "t:a": (0, {"m": 0})})

    def test_indexes_that_are_suspended(self):
        base = base_of(T, (A, Index("i", "t", "n")), (A, Index("j", "t", "m")))
        base.drop(LOW, "table", "t")
        self.told(base.world(A), {})
        base.define(LOW, table("t", "k:text", "m:int"))
        put(base, (LOW, "t:-", ("x", 5)))
        self.told(base.world(A), {"t:-": (1, {"m": 1})})

    def test_the_sequence(self):
        base = base_of((A, T), U, (A, U), T, Index("i", "t", "m"), Index("j", "t", "k"))
        self.assertEqual(list(statistics(base.world(A))), ["u:-", "t:-", "t:a", "u:a"])
        self.assertEqual(list(statistics(base.world(A))["t:-"][1]), ["k", "m"])

    def test_views_do_not_count(self):
        base = base_of(T, View("v", "(select (items (k x.k)) (from (x t)))"))
        self.told(base.world(A), {"t:-": (0, {})})

    def test_what_is_not_below_makes_no_difference(self):
        base = put(base_of(T, Index("i", "t", "n")), (LOW, "t:-", ("x", 1, None, 1)))
        expected = {"t:-": (1, {"n": 1})}
        self.told(base.world(A), expected)
        base.define(B, Index("j", "t", "m"))
        base.define(AB, U)
        put(base, (B, "t:-", ("y", 2, None, 1)), (AB, "t:-", ("z", 3, None, 1)))
        base.mark_gone(B, "t:-", "x")
        self.told(base.world(A), expected)

    def test_what_is_returned_is_new(self):
        world = base_of(T, Index("i", "t", "n")).world(LOW)
        first = statistics(world)
        first["t:-"][1].clear()
        first.clear()
        self.told(world, {"t:-": (0, {"n": 0})})


if __name__ == "__main__":
    unittest.main()
