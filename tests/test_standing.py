"""[13]: what names mean in worlds, and which entries stand."""

import unittest

from aboveless.base import Base
from aboveless.entries import Check, Index, Reference, Right, View
from aboveless.labels import Label
from tests.helpers import error_of
from tests.samples import A, AB, B, LOW, base_of, put, table

T = table("t", "k:text", "n:int?", "b:truth?", "m:int")
U = table("u", "k:int", "s:text?")


def view(name, source, items="(items (k x.k))"):
    return View(name, f"(select {items} (from (x {source})))")


def standing(world, kind=None):
    return [(kind, name, str(label)) for kind, name, label in world.entries(kind)]


def suspended(world):
    return [(kind, name, str(label), reason) for kind, name, label, reason in world.suspended_entries()]


class NamesTest(unittest.TestCase):
    def test_the_last_source_in_catalog_order(self):
        base = base_of(T, (A, T), (B, T), (AB, T))
        for label, found in ((LOW, "t:-"), (A, "t:a"), (B, "t:b"), (AB, "t:a+b")):
            self.assertEqual(base.world(label).source_id("t"), found)
        base.drop(AB, "table", "t")
        self.assertEqual(base.world(AB).source_id("t"), "t:b")
        base.drop(B, "table", "t")
        self.assertEqual(base.world(AB).source_id("t"), "t:a")

    def test_the_order_of_labels_and_not_of_making(self):
        base = base_of((AB, T), (B, T), (A, T), T)
        self.assertEqual(base.world(AB).source_id("t"), "t:a+b")
        base.drop(AB, "table", "t")
        self.assertEqual(base.world(AB).source_id("t"), "t:b")

    def test_the_last_one_that_stands(self):
        base = base_of(T, U, (A, view("t", "u")))
        self.assertEqual(base.world(A).source_id("t"), "t:a")
        base.drop(LOW, "table", "u")
        self.assertEqual(base.world(A).source_id("t"), "t:-")
        self.assertEqual(error_of(base.world(A).source_id, "t:a"), ("UnknownSource", "t:a"))

    def test_ids(self):
        base = base_of(T, (A, T), (A, view("v", "t")))
        world = base.world(AB)
        for source in ("t:-", "t:a", "v:a"):
            self.assertEqual(world.source_id(source), source)
        self.assertEqual(error_of(base.world(LOW).source_id, "t:a"), ("UnknownSource", "t:a"))
        self.assertEqual(error_of(base.world(B).source_id, "v"), ("UnknownSource", "v"))

    def test_names_of_other_kinds_mean_no_source(self):
        base = base_of(T, Index("i", "t", "n"), Check("c", "t", "b"), Right("g", "a", "a"))
        for name in ("i", "c", "g", "i:-"):
            self.assertEqual(error_of(base.world(LOW).source_id, name), ("UnknownSource", name))

    def test_sources_that_are_made_later_do_not_change_a_meaning(self):
        base = base_of(T, (A, view("v", "t")), (A, Index("i", "t", "n")))
        told = base.entries(A)
        base.define(A, table("t", "k:text"))
        self.assertEqual(base.entries(A)[:2], told)
        self.assertEqual(standing(base.world(A)), [
            ("table", "t", "-"), ("view", "v", "a"), ("index", "i", "a"), ("table", "t", "a")
        ])
        self.assertEqual(base.world(A).columns("t"), [("k", "text", False)])
        self.assertEqual(base.world(A).entry("index", "i", A).table, "t:-")


class StandingTest(unittest.TestCase):
    def test_tables_and_rights_stand(self):
        base = base_of(T, (A, Right("g", "ann", "q")), (A, U), (B, Right("g", "bob", "a")))
        self.assertEqual(standing(base.world(AB)), [
            ("table", "t", "-"), ("right", "g", "a"), ("table", "u", "a"), ("right", "g", "b")
        ])
        self.assertEqual(standing(base.world(B)), [("table", "t", "-"), ("right", "g", "b")])
        self.assertEqual(suspended(base.world(AB)), [])

    def test_catalog_order(self):
        base = base_of((AB, Right("x", "u", "m")), (B, Right("x", "u", "m")), Right("y", "u", "m"), Right("x", "u", "m"),
                       (A, Right("z", "u", "m")))
        self.assertEqual([name + label for kind, name, label in standing(base.world(AB))],
                         ["y-", "x-", "za", "xb", "xa+b"])

    def test_a_table_that_is_dropped_and_made_again(self):
        made = [
            (A, view("v", "t")), (A, view("w", "v")), (A, Check("c", "t", "(less n 5)")), (A, Reference("r", "t", "n", "u")),
            (A, Reference("s", "u", "s", "t")), (A, Index("i", "t", "n")), (A, Index("j", "u", "k")),
        ]
        base = base_of(T, U, *made)
        before = base.world(A)
        self.assertEqual(suspended(before), [])
        base.drop(LOW, "table", "t")
        self.assertEqual(standing(base.world(A)), [("table", "u", "-"), ("index", "j", "a")])
        self.assertEqual(suspended(base.world(A)), [
            ("view", "v", "a", ("missing", "t:-")), ("view", "w", "a", ("missing", "v:a")),
            ("check", "c", "a", ("missing", "t:-")), ("reference", "r", "a", ("missing", "t:-")),
            ("reference", "s", "a", ("missing", "t:-")), ("index", "i", "a", ("missing", "t:-")),
        ])
        self.assertEqual(base.world(LOW).suspended_entries(), [])
        base.define(LOW, T)
        self.assertEqual(suspended(base.world(A)), [])
        # the table is made behind u now
        self.assertEqual(base.world(A).tables(), ["u:-", "t:-"])
        self.assertNotEqual(base.world(A), before)

    def test_a_table_that_is_made_again_with_other_columns(self):
        base = base_of(T, U, (A, view("v", "t", "(items (k x.k) (n x.n))")), (A, Check("c", "t", "(less n 5)")),
                       (A, Reference("r", "t", "n", "u")), (A, Index("i", "t", "n")), (A, view("w", "v")),
                       (A, Index("j", "t", "k")), (A, Reference("e", "t", "n", "u", rule="empty")))
        base.drop(LOW, "table", "t")
        base.define(LOW, table("t", "k:text", "n:text"))
        self.assertEqual(suspended(base.world(A)), [
            ("check", "c", "a", ("sort",)), ("reference", "r", "a", ("sort",)), ("reference", "e", "a", ("sort",)),
        ])
        base.drop(LOW, "table", "t")
        base.define(LOW, table("t", "k:text", "n:int"))
        self.assertEqual(suspended(base.world(A)), [("reference", "e", "a", ("sort",))])
        base.drop(LOW, "table", "t")
        base.define(LOW, table("t", "k:text", "m:int"))
        self.assertEqual(suspended(base.world(A)), [
            ("view", "v", "a", ("sort",)), ("check", "c", "a", ("sort",)), ("reference", "r", "a", ("sort",)),
            ("index", "i", "a", ("sort",)), ("view", "w", "a", ("missing", "v:a")), ("reference", "e", "a", ("sort",)),
        ])

    def test_the_sort_of_the_key_of_a_target(self):
        base = base_of(T, U, (A, Reference("r", "t", "n", "u")))
        base.drop(LOW, "table", "u")
        self.assertEqual(suspended(base.world(A)), [("reference", "r", "a", ("missing", "u:-"))])
        base.define(LOW, table("u", "k:text", "s:text?"))
        self.assertEqual(suspended(base.world(A)), [("reference", "r", "a", ("sort",))])

    def test_a_check_that_is_no_truth_any_more(self):
        base = base_of(T, (A, Check("c", "t", "b")))
        base.drop(LOW, "table", "t")
        base.define(LOW, table("t", "k:text", "b:int"))
        self.assertEqual(suspended(base.world(A)), [("check", "c", "a", ("sort",))])

    def test_a_view_where_a_table_is_required(self):
        base = base_of(T, U, (A, Check("c", "t", "true")), (A, Index("i", "t", "k")), (A, view("v", "t")),
                       (A, Reference("r", "t", "n", "u")), (A, Reference("s", "u", "s", "t")))
        base.drop(LOW, "table", "t")
        base.define(LOW, view("t", "u", "(items (k x.s) (n x.k))"))
        self.assertEqual(suspended(base.world(A)), [
            ("check", "c", "a", ("missing", "t:-")), ("index", "i", "a", ("missing", "t:-")),
            ("reference", "r", "a", ("missing", "t:-")), ("reference", "s", "a", ("missing", "t:-")),
        ])

    def test_of_a_reference_first_the_table(self):
        base = base_of(T, U, (A, Reference("r", "t", "n", "u")))
        base.drop(LOW, "table", "t")
        base.drop(LOW, "table", "u")
        self.assertEqual(suspended(base.world(A)), [("reference", "r", "a", ("missing", "t:-"))])
        base.define(LOW, T)
        self.assertEqual(suspended(base.world(A)), [("reference", "r", "a", ("missing", "u:-"))])
        base.drop(LOW, "table", "t")
        base.define(LOW, U)
        self.assertEqual(suspended(base.world(A)), [("reference", "r", "a", ("missing", "t:-"))])

    def test_of_a_view_the_first_source_in_from(self):
        text = "(select (items (k b.k)) (from (b u) (a t) (c u)))"
        base = base_of(T, U, (A, View("v", text)))
        base.drop(LOW, "table", "t")
        self.assertEqual(suspended(base.world(A)), [("view", "v", "a", ("missing", "t:-"))])
        base.drop(LOW, "table", "u")
        self.assertEqual(suspended(base.world(A)), [("view", "v", "a", ("missing", "u:-"))])

    def test_views_over_views(self):
        base = base_of(T, view("v", "t"), (A, view("w", "v")), (A, view("x", "w")), (AB, view("y", "x")))
        self.assertEqual([name for kind, name, label in base.world(AB).entries("view")], ["v", "w", "x", "y"])
        base.drop(LOW, "view", "v")
        self.assertEqual(suspended(base.world(AB)), [
            ("view", "w", "a", ("missing", "v:-")), ("view", "x", "a", ("missing", "w:a")),
            ("view", "y", "a+b", ("missing", "x:a")),
        ])
        base.define(LOW, view("v", "t", "(items (k x.n))"))
        self.assertEqual(suspended(base.world(AB)), [])
        self.assertEqual(base.world(AB).columns("y"), [("k", "int", True)])

    def test_a_view_over_a_view_with_other_sorts(self):
        base = base_of(T, view("v", "t"), (A, view("w", "v", "(items (k (cat x.k 'a')))")))
        base.drop(LOW, "view", "v")
        base.define(LOW, view("v", "t", "(items (k x.n))"))
        self.assertEqual(suspended(base.world(A)), [("view", "w", "a", ("sort",))])

    def test_what_is_not_below_makes_no_difference(self):
        base = base_of(T, (A, view("v", "t")))
        world = base.world(A)
        base.define(B, T)
        base.define(B, Check("c", "t:-", "false"))
        base.define(AB, Check("c", "t:-", "false"))
        base.define(AB, view("v", "v"))
        self.assertEqual(base.world(A), world)
        self.assertEqual(base.world(A).source_id("v"), "v:a")

    def test_suspended_sources_of_checks_do_not_judge(self):
        base = put(base_of(T, (A, Check("c", "t", "false"))), (B, "t:-", ("x", 1, True, 1)))
        self.assertEqual(len(base.world(AB)), 0)
        base.drop(LOW, "table", "t")
        base.define(LOW, table("t", "k:text", "n:int", "o:truth", "m:int"))
        self.assertEqual(len(base.world(AB)), 0)
        base.drop(A, "check", "c")
        self.assertEqual(len(base.world(AB)), 1)

    def test_other_marks(self):
        base = Base("a", "b", "c", "d")
        base.define(Label("a", "b", "c", "d"), T)
        base.define(Label("b", "d"), U)
        self.assertEqual(standing(base.world(Label("a", "b", "c", "d"))), [("table", "u", "b+d"), ("table", "t", "a+b+c+d")])
        self.assertEqual(standing(base.world(Label("b", "c", "d"))), [("table", "u", "b+d")])
        self.assertEqual(standing(base.world(Label("a", "b", "c"))), [])


if __name__ == "__main__":
    unittest.main()
