"""Worlds: their methods, errors and equality."""

import unittest

from aboveless.base import Base
from aboveless.entries import Check, Index, Reference, Right, View
from aboveless.labels import Label
from aboveless.values import is_key
from tests.helpers import error_of, every_kind, exact
from tests.samples import A, AB, B, LOW, base_of, put, table

T = table("t", "k:text", "n:int?")
U = table("u", "k:int", "b:truth")
VIEW = View("v", "(select (items (name x.k) (double (add x.n x.n)) (yes true)) (from (x t)))")


def sample():
    base = base_of(U, T, (A, VIEW), (A, Check("c", "t", "(less n 5)")), (A, Reference("r", "u", "k", "u")),
                   (A, Index("i", "t", "n")), (A, Right("g", "ann", "a")), (AB, table("z", "k:int")))
    return put(base, (LOW, "t:-", ("y", 9)), (LOW, "t:-", ("b", None)), (A, "t:-", ("a", 1)), (A, "t:-", ("b", 2)),
               (LOW, "u:-", (10, True)), (LOW, "u:-", (9, False)), (A, "u:-", (-1, True)), (AB, "z:a+b", (1,)))


class MethodsTest(unittest.TestCase):
    def test_label(self):
        for label in (LOW, A, AB):
            self.assertEqual(sample().world(label).label, label)

    def test_entries(self):
        world = sample().world(A)
        told = [("table", "u", LOW), ("table", "t", LOW), ("view", "v", A), ("check", "c", A), ("reference", "r", A),
                ("index", "i", A), ("right", "g", A)]
        self.assertEqual(world.entries(), told)
        self.assertEqual(world.entries(None), told)
        self.assertEqual(world.entries(kind="table"), told[:2])
        for kind, name, label in told[2:]:
            self.assertEqual(world.entries(kind), [(kind, name, label)])
        self.assertEqual(sample().world(LOW).entries("view"), [])
        for value in every_kind():
            if value is not None:
                told = error_of(world.entries, value)
                self.assertEqual(told[0], "UnknownKind")
                self.assertIs(told[1], value)

    def test_suspended_entries(self):
        base = sample()
        self.assertEqual(base.world(A).suspended_entries(), [])
        base.drop(LOW, "table", "t")
        self.assertEqual(base.world(A).suspended_entries(), [
            ("view", "v", A, ("missing", "t:-")), ("check", "c", A, ("missing", "t:-")), ("index", "i", A, ("missing", "t:-"))
        ])

    def test_entry(self):
        world = sample().world(A)
        self.assertEqual(world.entry("table", "t", LOW), T)
        self.assertEqual(world.entry("check", "c", A), Check("c", "t:-", "(less n 5)"))
        self.assertEqual(world.entry(kind="reference", name="r", label=A).told(),
                         ("reference", "r", "u:-", "k", "u:-", "restrict"))
        self.assertEqual(world.entry("view", "v", A).told()[2], VIEW.told()[2].replace("(x t)", "(x t:-)"))
        for told in (("table", "t", A), ("view", "t", LOW), ("check", "c", LOW), ("check", "c", AB), ("table", "z", AB)):
            self.assertEqual(error_of(world.entry, *told), ("UnknownEntry", told[1]))
        for value in every_kind():
            for told in ((value, "t", LOW), ("table", value, LOW), ("table", "t", value)):
                if exact(value)[0] != "Label" or value == Label("a"):
                    found = error_of(world.entry, *told)
                    self.assertEqual(found[0], "UnknownEntry")
                    self.assertIs(found[1], told[1])

    def test_an_entry_that_is_suspended(self):
        base = sample()
        base.drop(LOW, "table", "t")
        self.assertEqual(error_of(base.world(A).entry, "check", "c", A), ("UnknownEntry", "c"))

    def test_tables(self):
        self.assertEqual(sample().world(A).tables(), ["u:-", "t:-"])
        self.assertEqual(sample().world(AB).tables(), ["u:-", "t:-", "z:a+b"])
        self.assertEqual(Base("a").world(A).tables(), [])

    def test_columns(self):
        world = sample().world(A)
        for text in ("t", "t:-"):
            self.assertEqual(world.columns(text), [("k", "text", False), ("n", "int", True)])
        for text in ("v", "v:a"):
            self.assertEqual(world.columns(text), [("name", "text", True), ("double", "int", True), ("yes", "truth", True)])

    def test_rows(self):
        world = sample().world(A)
        for text in ("t", "t:-"):
            self.assertEqual(list(world.rows(text)), [("a", ("a", 1), A), ("b", ("b", 2), A)])
        self.assertEqual([key for key, row, label in world.rows(text="u")], [-1, 9, 10])
        self.assertEqual([label for key, row, label in world.rows("u")], [A, LOW, LOW])
        self.assertEqual(exact([row for key, row, label in world.rows("u")]), exact([(-1, True), (9, False), (10, True)]))
        self.assertEqual(list(sample().world(AB).rows("z")), [(1, (1,), AB)])

    def test_rows_is_a_generator(self):
        world = sample().world(A)
        made = world.rows("nothing")
        self.assertEqual(error_of(next, made), ("UnknownSource", "nothing"))
        made = world.rows("t")
        self.assertEqual(next(made), ("a", ("a", 1), A))
        self.assertEqual(list(world.rows("t")), list(world.rows("t")))
        self.assertEqual(next(made), ("b", ("b", 2), A))
        self.assertEqual(list(made), [])

    def test_standing_row(self):
        world = sample().world(A)
        self.assertEqual(world.standing_row("t", "b"), ("b", 2))
        self.assertEqual(world.standing_row(text="u:-", key=10), (10, True))
        for key in ("y", "c", 1, "10"):
            self.assertIsNone(world.standing_row("t", key))
        world = put(base_of(table("n", "k:int")), (LOW, "n:-", (1,)), (LOW, "n:-", (0,))).world(LOW)
        self.assertEqual((world.standing_row("n", 1), world.standing_row("n", 0)), ((1,), (0,)))
        for value in every_kind():
            if not is_key(value) or value not in (1, 0):
                self.assertIsNone(world.standing_row("n", value))

    def test_unknown_sources(self):
        world = sample().world(A)
        calls = (world.source_id, world.columns, lambda text: list(world.rows(text)), lambda text: world.standing_row(text, 1))
        for call in calls:
            for value in every_kind() + ["z", "z:a+b", "t:a", "v:-", "c", "t:", "t:-:-"]:
                told = error_of(call, value)
                self.assertEqual(told[0], "UnknownSource")
                self.assertIs(told[1], value)
        for call in calls[2:]:
            self.assertEqual(error_of(call, "v"), ("UnknownSource", "v"))
            self.assertEqual(error_of(call, "v:a"), ("UnknownSource", "v:a"))
        self.assertEqual(error_of(world.standing_row, "v", []), ("UnknownSource", "v"))

    def test_suspended(self):
        world = sample().world(A)
        self.assertEqual(world.suspended(), [("t:-", "y", LOW, 1, ("check", "c", "a"))])
        self.assertEqual(sample().world(LOW).suspended(), [])

    def test_len(self):
        self.assertEqual([len(sample().world(label)) for label in (LOW, A, B, AB)], [4, 5, 4, 6])
        self.assertEqual(len(Base("a").world(A)), 0)

    def test_what_is_returned_is_new(self):
        world, same = sample().world(A), sample().world(A)
        for call in (world.entries, world.tables, world.suspended, world.suspended_entries, lambda: world.columns("t"),
                     lambda: world.columns("v")):
            first = call()
            first.append(5)
            self.assertEqual(call(), first[:-1])
        self.assertEqual(world, same)

    def test_labels_of_the_same_marks(self):
        base = sample()
        self.assertEqual(base.world(Label("b", "a", "a")), base.world(AB))
        self.assertEqual(base.world(AB).entry("view", "v", Label("a")).name, "v")


class EqualityTest(unittest.TestCase):
    def differ(self, first, second):
        self.assertFalse(first == second)
        self.assertTrue(first != second)

    def same(self, first, second):
        self.assertTrue(first == second)
        self.assertFalse(first != second)

    def world(self, *rows, entries=(T,), label=A):
        return put(base_of(*entries), *rows).world(label)

    def test_the_same(self):
        self.same(sample().world(A), sample().world(A))
        self.same(Base("a", "b").world(A), Base("a").world(A))
        first, second = (LOW, "t:-", ("x", 1)), (LOW, "t:-", ("y", 1))
        self.same(self.world(first, second), self.world(second, first))

    def test_labels(self):
        self.differ(Base("a").world(LOW), Base("a").world(A))
        self.differ(Base("a", "b").world(B), Base("a", "b").world(A))

    def test_entries(self):
        self.differ(self.world(), self.world(entries=(T, U)))
        self.differ(self.world(entries=(T, U)), self.world(entries=(U, T)))
        self.differ(self.world(), self.world(entries=((A, T),)))
        self.differ(self.world(), self.world(entries=(table("t", "k:text", "n:int"),)))
        self.differ(self.world(entries=(T, Right("g", "ann", "a"))), self.world(entries=(T, Right("g", "ann", "b"))))
        self.differ(self.world(entries=(T, Check("c", "t", "true"))), self.world(entries=(T, Check("c", "t", "(filled k)"))))
        self.differ(self.world(entries=(T, Index("i", "t", "k"))), self.world(entries=(T, (A, Index("i", "t", "k")))))
        refers = [Reference("r", "t", "k", "t"), Reference("r", "t", "k", "t", rule="cascade")]
        self.differ(self.world(entries=(T, refers[0])), self.world(entries=(T, refers[1])))

    def test_suspended_entries(self):
        def world(*entries):
            base = Base("a", "b")
            base.apply(LOW, [("define", told) for told in entries])
            return base.world(A)

        first, second = ("index", "i", "t:-", "k"), ("index", "j", "t:-", "k")
        self.same(world(first, second), world(first, second))
        self.differ(world(first, second), world(second, first))
        self.differ(world(first), world(second))
        self.differ(world(first), world())
        self.differ(world(first), world(("index", "i", "u:-", "k")))
        self.differ(world(first), world(("check", "i", "t:-", "k")))
        at_a = Base("a", "b")
        at_a.apply(A, [("define", first)])
        self.differ(world(first), at_a.world(A))
        known = ("table", "t", (("k", "int", False),))
        self.differ(world(known, ("index", "i", "u:-", "q")), world(known, ("index", "i", "t:-", "q")))

    def test_rows(self):
        row = (LOW, "t:-", ("x", 1))
        self.same(self.world(row), self.world(row))
        self.differ(self.world(row), self.world())
        self.differ(self.world(row), self.world((LOW, "t:-", ("x", 2))))
        self.differ(self.world(row), self.world((LOW, "t:-", ("y", 1))))
        self.differ(self.world(row), self.world((LOW, "t:-", ("x", None))))
        self.differ(self.world(row), self.world((A, "t:-", ("x", 1))))
        self.same(self.world(row), self.world(row, (B, "t:-", ("x", 2))))
        two = (T, table("w", "k:text", "n:int?"))
        self.differ(self.world(row, entries=two), self.world((LOW, "w:-", ("x", 1)), entries=two))

    def test_suspended_rows(self):
        row = (LOW, "t:-", (5, 1))
        self.same(self.world(row), self.world(row))
        self.differ(self.world(row), self.world())
        self.differ(self.world(row), self.world((LOW, "t:-", (6, 1))))
        self.differ(self.world((LOW, "x:-", (5,))), self.world((LOW, "x:-", ("5",))))
        self.differ(self.world(row), self.world((A, "t:-", (5, 1))))
        self.differ(self.world((LOW, "x:-", (5,))), self.world((LOW, "y:-", (5,))))

    def test_rounds_and_reasons(self):
        entries = (table("u", "k:int", "p:int?", "q:int?"), Check("c", "u", "(less k 9)"), Check("d", "u", "(less k 9)"),
                   Reference("r", "u", "p", "u"))
        lost = [(LOW, "u:-", (9, None, None))]
        self.differ(self.world((LOW, "u:-", (1, 9, None)), *lost, entries=entries),
                    self.world((LOW, "u:-", (1, None)), *lost, entries=entries))
        self.differ(self.world((LOW, "u:-", (1, 8, None)), entries=entries),
                    self.world((LOW, "u:-", (1, 7, None)), entries=entries))
        rows = [(LOW, "u:-", (1, 2, None)), (LOW, "u:-", (2, 9, None))]
        self.differ(self.world(*rows, *lost, entries=entries), self.world(rows[0], (LOW, "u:-", (2,)), *lost, entries=entries))

    def test_values_of_other_kinds(self):
        world = sample().world(A)
        for value in every_kind() + [sample()]:
            self.assertFalse(world == value)
            self.assertTrue(world != value)


if __name__ == "__main__":
    unittest.main()
