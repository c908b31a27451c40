"""The database: writes without judgement, changes, copies and equality."""

import unittest

from aboveless.base import Base
from aboveless.entries import Check, Index, Reference, View
from aboveless.labels import Label
from tests.helpers import error_of, every_kind, exact, unchanged
from tests.samples import A, AB, B, LOW, base_of, put, state, table

T = table("t", "k:text", "n:int?")
U = table("u", "k:int")


class LayersTest(unittest.TestCase):
    def test_rows_without_any_judgement(self):
        base = base_of(T, Check("c", "t", "false"))
        self.assertIsNone(base.put_row(LOW, "t:-", ("x", 1)))
        base.put_row(LOW, "t:-", ("x", 1, 2, 3))
        base.put_row(LOW, "t:-", (7, None, True))
        self.assertIsNone(base.mark_gone(LOW, "t:-", "y"))
        self.assertEqual(base.layer(LOW, "t:-"), {7: (7, None, True), "x": ("x", 1, 2, 3), "y": "gone"})
        self.assertEqual(list(base.layer(LOW, "t:-")), [7, "x", "y"])
        self.assertIsNone(base.drop_entry(LOW, "t:-", "x"))
        self.assertIsNone(base.drop_entry(LOW, "t:-", "y"))
        self.assertEqual(base.layer(LOW, "t:-"), {7: (7, None, True)})

    def test_where_no_such_table_stands(self):
        base = Base("a", "b")
        base.put_row(A, "t:-", (1,))
        base.mark_gone(AB, "x:a", 2)
        base.put_row(AB, "t:-", (1, 2))
        self.assertEqual(base.layer(A, "t:-"), {1: (1,)})
        self.assertEqual(base.layer(AB, "x:a"), {2: "gone"})
        self.assertEqual((base.layer(LOW, "t:-"), base.layer(A, "x:a"), base.layer(B, "y:b")), ({}, {}, {}))

    def test_layers_of_labels_and_tables_are_apart(self):
        base = put(base_of(T, (A, T)), (LOW, "t:-", ("x", 1)), (A, "t:-", ("x", 2)), (A, "t:a", ("x", 3)))
        self.assertEqual([base.layer(*told) for told in ((LOW, "t:-"), (A, "t:-"), (A, "t:a"), (AB, "t:a"))],
                         [{"x": ("x", 1)}, {"x": ("x", 2)}, {"x": ("x", 3)}, {}])

    def test_a_layer_is_new(self):
        base = put(base_of(T), (LOW, "t:-", ("x", 1)))
        base.layer(LOW, "t:-").clear()
        base.entries(LOW).clear()
        self.assertEqual((base.layer(LOW, "t:-"), len(base.entries(LOW))), ({"x": ("x", 1)}, 1))

    def calls(self, base):
        return ((base.put_row, ("x", 1)), (base.mark_gone, "x"), (base.drop_entry, "x"))

    def test_labels(self):
        base = put(base_of(T), (LOW, "t:-", ("x", 1)))
        before = state(base)
        for value in [value for value in every_kind() if not isinstance(value, Label)] + [Label("c"), Label("a", "c")]:
            for call, given in self.calls(base):
                self.assertEqual(error_of(call, value, "t:-", given)[0], "InvalidLabel")
                self.assertIs(error_of(call, value, 5, 5)[1], value)
            for call in (base.world, base.entries):
                self.assertEqual(error_of(call, value)[0], "InvalidLabel")
            self.assertEqual(error_of(base.layer, value, 5)[0], "InvalidLabel")
            self.assertEqual(error_of(base.apply, value, [])[0], "InvalidLabel")
        self.assertEqual(state(base), before)

    def test_sources(self):
        base = put(base_of(T), (LOW, "t:-", ("x", 1)))
        before = state(base)
        wrong = ["t", "t:", ":-", "t:b", "t:a+b", "t:c", "t:b+a", "T:-", "t:-:-", "t:- ", "abcdefghi:-", ""]
        for value in wrong + [value for value in every_kind() if exact(value) != ("str", "a:-")]:
            for call, given in self.calls(base):
                for last in (given, None):
                    told = error_of(call, A, value, last)
                    self.assertEqual(told[0], "InvalidSource")
                    self.assertIs(told[1], value)
            self.assertEqual(error_of(base.layer, A, value)[0], "InvalidSource")
        self.assertEqual(error_of(base.put_row, LOW, "t:a", ("x", 1)), ("InvalidSource", "t:a"))
        self.assertEqual(state(base), before)

    def test_errors_of_layers(self):
        base = put(base_of(T), (LOW, "t:-", ("x", 1)))
        before = base.clone()
        for source in ("t:-", "x:-"):
            self.assertEqual(error_of(base.put_row, LOW, source, ["x", 1]), ("InvalidRow", ["x", 1]))
            self.assertEqual(error_of(base.put_row, LOW, source, ()), ("InvalidRow", ()))
            self.assertEqual(error_of(base.put_row, LOW, source, (True, 1)), ("InvalidRow", (True, 1)))
            self.assertEqual(error_of(base.mark_gone, LOW, source, True), ("InvalidKey", True))
            self.assertEqual(error_of(base.mark_gone, LOW, source, None), ("InvalidKey", None))
            self.assertEqual(error_of(base.drop_entry, LOW, source, "y"), ("NoEntry", "y"))
            self.assertEqual(error_of(base.drop_entry, LOW, source, []), ("NoEntry", []))
            self.assertEqual(error_of(base.drop_entry, A, source, "x"), ("NoEntry", "x"))
        self.assertEqual(base, before)
        self.assertEqual(state(base), state(before))

    def test_by_name(self):
        base = Base("a")
        base.put_row(label=A, source="t:-", row=(1, 2))
        base.mark_gone(label=A, source="t:-", key=2)
        base.drop_entry(label=A, source="t:-", key=2)
        base.apply(label=A, changes=[("gone", "t:a", 3)])
        self.assertEqual((base.layer(label=A, source="t:-"), base.entries(label=A)), ({1: (1, 2)}, []))
        self.assertEqual(base.world(label=A).label, A)


CHANGES = [
    ("define", ("table", "t", (("k", "text", False), ("n", "int", True)))),
    ("define", ("index", "i", "t:-", "n")),
    ("put", "t:-", ("x", 1)),
    ("put", "t:-", ("y", None)),
    ("gone", "t:-", "z"),
    ("put", "t:-", ("x", 2)),
    ("clear", "t:-", "y"),
    ("drop", "index", "i"),
]


class ApplyTest(unittest.TestCase):
    def test_each_change(self):
        base = Base("a", "b")
        self.assertIsNone(base.apply(LOW, CHANGES[:5]))
        self.assertEqual(base.entries(LOW), [CHANGES[0][1], CHANGES[1][1]])
        self.assertEqual(base.layer(LOW, "t:-"), {"x": ("x", 1), "y": ("y", None), "z": "gone"})
        base.apply(LOW, CHANGES[5:])
        self.assertEqual(base.entries(LOW), [CHANGES[0][1]])
        self.assertEqual(base.layer(LOW, "t:-"), {"x": ("x", 2), "z": "gone"})
        other = Base("a", "b")
        other.apply(LOW, tuple(CHANGES))
        self.assertEqual(other, base)

    def test_dropping_a_table_empties_its_own_layer(self):
        base = Base("a", "b")
        base.apply(LOW, CHANGES)
        base.apply(A, [("put", "t:-", ("y", 5))])
        base.apply(LOW, [("drop", "table", "t")])
        self.assertEqual((base.entries(LOW), base.layer(LOW, "t:-")), ([], {}))
        self.assertEqual(base.layer(A, "t:-"), {"y": ("y", 5)})

    def test_without_any_judgement(self):
        base = Base("a", "b")
        base.apply(A, [("define", ("check", "c", "t:-", "false")), ("put", "t:-", (1, 2)), ("drop", "check", "c")])
        base.apply(A, [("define", ("reference", "r", "t:-", "n", "u:a", "empty"))])
        self.assertEqual(base.entries(A), [("reference", "r", "t:-", "n", "u:a", "empty")])
        self.assertEqual(base.layer(A, "t:-"), {1: (1, 2)})
        base.apply(A, [("clear", "t:-", 1), ("clear", "t:-", 1), ("clear", "x:a", "y")])
        self.assertEqual(base.layer(A, "t:-"), {})
        base = base_of(T, Index("i", "t", "n"))
        base.apply(LOW, [("drop", "table", "t")])
        self.assertEqual(base.entries(LOW), [("index", "i", "t:-", "n")])

    def test_in_sequence(self):
        base = put(base_of(T), (LOW, "t:-", ("x", 1)))
        base.apply(LOW, [("drop", "table", "t"), ("define", CHANGES[0][1]), ("put", "t:-", ("y", 1))])
        self.assertEqual(base.layer(LOW, "t:-"), {"y": ("y", 1)})
        base.apply(LOW, [])
        self.assertEqual(base.layer(LOW, "t:-"), {"y": ("y", 1)})

    def test_changes_are_not_changed_or_kept(self):
        base = Base("a", "b")
        changes = list(CHANGES)
        unchanged(self, base.apply, LOW, changes)
        before = state(base)
        changes.clear()
        self.assertEqual(state(base), before)

    def test_nothing_has_changed_behind_an_error(self):
        base = base_of(T)
        before = state(base)
        self.assertEqual(error_of(base.apply, LOW, [CHANGES[2], ("put", "t:a", ("x", 1))]), ("InvalidSource", "t:a"))
        self.assertEqual(error_of(base.apply, LOW, [CHANGES[2], ("put", "t:-", (None, 1))]), ("InvalidRow", (None, 1)))
        self.assertEqual(state(base), before)


class CloneTest(unittest.TestCase):
    def test_clones_are_independent(self):
        base = put(base_of(T, (A, Index("i", "t", "n"))), (LOW, "t:-", ("x", 1)), (A, "t:-", ("y", 2)))
        told = state(base)
        copied = base.clone()
        self.assertEqual(state(copied), told)
        self.assertEqual(copied, base)
        copied.put_row(LOW, "t:-", ("z", 1))
        copied.drop_entry(A, "t:-", "y")
        copied.define(LOW, U)
        copied.drop(A, "index", "i")
        self.assertEqual(state(base), told)
        self.assertNotEqual(copied, base)
        copied = base.clone()
        told = state(copied)
        base.put_row(A, "t:a", ("z", 1))
        base.mark_gone(LOW, "t:-", "x")
        base.define(A, U)
        self.assertEqual(state(copied), told)
        self.assertEqual(copied.marks, ("a", "b"))

    def test_a_world_does_not_change_with_its_database(self):
        base = put(base_of(T, (A, View("v", "(select (items (k x.k)) (from (x t)))"))), (LOW, "t:-", ("x", 1)))
        world, same = base.world(A), base.world(A)
        base.put_row(A, "t:-", ("x", 2))
        base.put_row(LOW, "t:-", ("y", 2))
        base.drop(LOW, "table", "t")
        self.assertEqual(world, same)
        self.assertEqual(list(world.rows("t")), [("x", ("x", 1), LOW)])
        self.assertEqual([told[1] for told in world.entries()], ["t", "v"])
        self.assertNotEqual(base.world(A), same)


class EqualityTest(unittest.TestCase):
    def differ(self, first, second):
        self.assertFalse(first == second)
        self.assertTrue(first != second)

    def same(self, first, second):
        self.assertTrue(first == second)
        self.assertFalse(first != second)

    def test_marks(self):
        self.same(Base("a", "b"), Base("b", "a", "a"))
        self.differ(Base("a"), Base("a", "b"))
        self.differ(Base("a"), Base())

    def test_entries(self):
        self.same(base_of(T, U), base_of(T, U))
        self.differ(base_of(T, U), base_of(U, T))
        self.differ(base_of(T), base_of((A, T)))
        self.differ(base_of(T), base_of(T, U))
        self.differ(base_of(T), base_of(table("t", "k:text", "n:int")))
        self.same(base_of(T, (A, U)), base_of((A, U), T))
        emptied = base_of(T, (A, U))
        emptied.drop(A, "table", "u")
        self.same(emptied, base_of(T))
        self.differ(base_of(T, U, Index("i", "t", "k")), base_of(T, U, Index("i", "u", "k")))
        self.same(base_of(T, Reference("i", "t", "k", "t")), base_of(T, Reference("i", "t:-", "k", "t:-")))

    def test_rows(self):
        self.same(put(base_of(T), (LOW, "t:-", ("x", 1))), put(base_of(T), (LOW, "t:-", ("x", 1))))
        self.differ(put(base_of(T), (LOW, "t:-", ("x", 1))), base_of(T))
        self.differ(put(base_of(T), (LOW, "t:-", ("x", 1))), put(base_of(T), (LOW, "t:-", ("x", True))))
        self.differ(put(base_of(T), (LOW, "t:-", ("x", 0))), put(base_of(T), (LOW, "t:-", ("x", False))))
        self.differ(put(base_of(T), (LOW, "t:-", ("x", 1))), put(base_of(T), (A, "t:-", ("x", 1))))
        self.differ(put(base_of(T), (A, "t:-", ("x", 1))), put(base_of(T), (A, "t:a", ("x", 1))))
        self.differ(put(base_of(T), (A, "t:-", (1,))), put(base_of(T), (A, "t:-", ("1",))))
        first, second = ("x", 1), ("y", 2)
        self.same(put(base_of(T), (LOW, "t:-", first), (LOW, "t:-", second)),
                  put(base_of(T), (LOW, "t:-", second), (LOW, "t:-", first)))

    def test_layers_that_became_empty(self):
        base = put(base_of(T), (LOW, "t:-", ("x", 1)), (A, "x:a", (1,)))
        base.drop_entry(LOW, "t:-", "x")
        base.drop_entry(A, "x:a", 1)
        self.same(base, base_of(T))
        self.assertEqual(error_of(base.put_row, LOW, "y:-", 5), ("InvalidRow", 5))
        self.same(base, base_of(T))
        base.mark_gone(LOW, "t:-", "x")
        self.differ(base, base_of(T))

    def test_values_of_other_kinds(self):
        for value in every_kind():
            self.assertFalse(Base() == value)
            self.assertTrue(Base() != value)


if __name__ == "__main__":
    unittest.main()
