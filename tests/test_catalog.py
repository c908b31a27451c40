"""[12], [13], [16]: making and dropping entries."""

import unittest

from aboveless.base import Base
from aboveless.entries import Check, Entry, Index, Reference, Right, Table, View, entry_of
from aboveless.errors import InvalidName, TooMany
from aboveless.labels import Label
from aboveless.values import is_name
from tests.helpers import end_of, error_of, every_kind
from tests.samples import A, AB, B, LOW, base_of, lost, put, state, table

T = table("t", "k:text", "n:int?", "b:truth?", "m:int")
U = table("u", "k:int", "s:text?")


def view(name, source, items="(items (k x.k))"):
    return View(name, f"(select {items} (from (x {source})))")


class RefusalTest(unittest.TestCase):
    def refused(self, base, error, label, entry):
        before = base.clone()
        told = state(base)
        self.assertEqual(error_of(base.define, label, entry), error)
        self.assertEqual(base, before)
        self.assertEqual(state(base), told)

    def not_dropped(self, base, error, label, kind, name):
        before = base.clone()
        told = state(base)
        self.assertEqual(error_of(base.drop, label, kind, name), error)
        self.assertEqual(base, before)
        self.assertEqual(state(base), told)


class DefineTest(RefusalTest):
    def test_each_kind_at_several_labels(self):
        for label in (LOW, A, AB):
            base = Base("a", "b")
            text = str(label)
            made = [
                T, U, view("v", "t"), Check("c", "t", "(less 0 n)"), Reference("r", "t", "n", "u", rule="empty"),
                Index("i", "t", "n"), Right("g", "ann", "a"),
            ]
            for entry in made:
                self.assertIsNone(base.define(label, entry))
            self.assertEqual(base.entries(label), [
                ("table", "t", (("k", "text", False), ("n", "int", True), ("b", "truth", True), ("m", "int", False))),
                ("table", "u", (("k", "int", False), ("s", "text", True))),
                ("view", "v", f"(select (items (k x.k)) (from (x t:{text})))"),
                ("check", "c", f"t:{text}", "(less 0 n)"),
                ("reference", "r", f"t:{text}", "n", f"u:{text}", "empty"),
                ("index", "i", f"t:{text}", "n"),
                ("right", "g", "ann", "a"),
            ])
            for other in (LOW, A, B, AB):
                if other != label:
                    self.assertEqual(base.entries(other), [])

    def test_entries_at_labels_above_are_bound_to_what_is_below(self):
        base = base_of(T, (A, U), (A, view("v", "t")), (AB, Reference("r", "t", "m", "u")), (AB, view("w", "v")))
        self.assertEqual(base.entries(A)[1], ("view", "v", "(select (items (k x.k)) (from (x t:-)))"))
        self.assertEqual(base.entries(AB), [
            ("reference", "r", "t:-", "m", "u:a", "restrict"),
            ("view", "w", "(select (items (k x.k)) (from (x v:a)))"),
        ])

    def test_ids_are_taken_as_they_are(self):
        base = base_of(T, (A, T), (A, Index("i", "t:-", "n")), (A, Index("j", "t:a", "n")), (A, Index("k", "t", "n")))
        self.assertEqual([told[2] for told in base.entries(A)[1:]], ["t:-", "t:a", "t:a"])

    def test_entries_made_again_from_what_is_told(self):
        base = base_of(T, U, view("v", "t"), Check("c", "t", "(less 0 n)"), Reference("r", "t", "m", "u", rule="cascade"),
                       Index("i", "t", "n"), Right("g", "ann", "a"))
        again = Base("a", "b")
        for told in base.entries(LOW):
            again.define(LOW, entry_of(told))
        self.assertEqual(again, base)

    def test_labels(self):
        base = base_of(T)
        for value in every_kind():
            if not isinstance(value, Label):
                self.assertEqual(error_of(base.define, value, U)[0], "InvalidLabel")
        self.refused(base, ("InvalidLabel", Label("c")), Label("c"), U)
        self.refused(base, ("InvalidLabel", Label("a", "c")), Label("a", "c"), U)
        self.refused(base, ("InvalidLabel", "a"), "a", "no entry")

    def test_what_is_no_entry(self):
        base = base_of(T)
        for value in every_kind() + [Entry("a"), T.told(), Table]:
            told = error_of(base.define, LOW, value)
            self.assertEqual(told[0], "InvalidEntry")
            self.assertIs(told[1], value)

    def test_names_of_tables_and_views_are_together(self):
        base = base_of(T, view("v", "t"))
        self.refused(base, ("NameTaken", "t"), LOW, T)
        self.refused(base, ("NameTaken", "t"), LOW, view("t", "t"))
        self.refused(base, ("NameTaken", "v"), LOW, table("v", "k:int"))
        self.refused(base, ("NameTaken", "v"), LOW, view("v", "t"))

    def test_names_of_other_kinds_are_by_themselves(self):
        base = base_of(T, U)
        made = [Check("t", "t", "true"), Reference("t", "t", "n", "u"), Index("t", "t", "n"), Right("t", "t", "t")]
        for entry in made:
            base.define(LOW, entry)
        for entry in made:
            self.refused(base, ("NameTaken", "t"), LOW, entry)
            base.define(A, entry)
        self.refused(base, ("NameTaken", "t"), LOW, Right("t", "other", "mark"))
        self.refused(base, ("NameTaken", "t"), A, Index("t", "u", "k"))
        base.define(LOW, Index("i", "t", "n"))
        base.define(LOW, table("i", "k:int"))
        base.define(LOW, Check("v", "t", "true"))
        base.define(LOW, view("v", "t"))

    def test_names_at_different_labels_are_independent(self):
        base = base_of(T, (A, T), (B, view("t", "t")), (AB, U), (AB, table("t", "k:int")))
        self.assertEqual([len(base.entries(label)) for label in (LOW, A, B, AB)], [1, 1, 1, 2])

    def test_unknown_sources(self):
        base = base_of(T, (A, U), (A, view("v", "t")))
        self.refused(base, ("UnknownSource", "u"), LOW, view("w", "u"))
        self.refused(base, ("UnknownSource", "u"), B, Index("i", "u", "k"))
        self.refused(base, ("UnknownSource", "u:a"), B, Index("i", "u:a", "k"))
        self.refused(base, ("UnknownSource", "u:-"), A, Index("i", "u:-", "k"))
        self.refused(base, ("UnknownSource", "x"), A, Check("c", "x", "true"))
        self.refused(base, ("UnknownSource", "x"), A, Reference("r", "x", "n", "y"))
        self.refused(base, ("UnknownSource", "y"), A, Reference("r", "t", "n", "y"))
        self.refused(base, ("UnknownSource", "y"), A, View("w", "(select (items (k a.k)) (from (a t) (b y) (c x)))"))

    def test_a_view_where_a_table_is_required(self):
        base = base_of(T, (A, view("v", "t")), (A, view("t", "t")))
        self.refused(base, ("UnknownSource", "v"), A, Index("i", "v", "k"))
        self.refused(base, ("UnknownSource", "v:a"), A, Check("c", "v:a", "true"))
        self.refused(base, ("UnknownSource", "v"), A, Reference("r", "v", "k", "v:a"))
        self.refused(base, ("UnknownSource", "v:a"), A, Reference("r", "t:-", "k", "v:a"))
        # the last source of the name is a view, and no table is looked for behind it
        self.refused(base, ("UnknownSource", "t"), A, Index("i", "t", "k"))
        base.define(A, Index("i", "t:-", "k"))
        base.define(A, view("w", "v"))

    def test_suspended_sources_are_unknown(self):
        base = base_of(T, (A, view("v", "t")), (A, view("w", "v")))
        base.drop(LOW, "table", "t")
        self.refused(base, ("UnknownSource", "v"), A, view("x", "v"))
        self.refused(base, ("UnknownSource", "w:a"), A, view("x", "w:a"))
        self.refused(base, ("NameTaken", "v"), A, view("v", "v"))

    def test_columns_and_sorts_of_views(self):
        base = base_of(T)
        self.refused(base, ("UnknownColumn", "x.q"), A, view("v", "t", "(items (a x.q))"))
        self.refused(base, ("WrongSort", ("items", 1)), A, view("v", "t", "(items (a x.k) (b (add x.n x.k)))"))
        text = "(select (items (a x.k)) (from (x t)) (where x.n))"
        self.refused(base, ("WrongSort", ("where", 0)), A, View("v", text))
        text = "(select (items (a (sum x.k))) (from (x t)) (where x.b) (group x.z))"
        self.refused(base, ("UnknownColumn", "x.z"), A, View("v", text))

    def test_columns_and_sorts_of_checks(self):
        base = base_of(T)
        self.refused(base, ("UnknownColumn", "q"), A, Check("c", "t", "(less 0 q)"))
        self.refused(base, ("WrongSort", ()), A, Check("c", "t", "n"))
        self.refused(base, ("WrongSort", ()), A, Check("c", "t", "(add n 1)"))
        self.refused(base, ("WrongSort", (1,)), A, Check("c", "t", "(and b (less n k))"))
        self.refused(base, ("WrongSort", (0,)), A, Check("c", "t", "(not (not n))"))
        for text in ("b", "true", "(filled k)"):
            base.define(A, Check("c", "t", text))
            base.drop(A, "check", "c")

    def test_columns_and_sorts_of_references(self):
        base = base_of(T, U)
        self.refused(base, ("UnknownColumn", "q"), A, Reference("r", "t", "q", "u"))
        self.refused(base, ("WrongSort", ()), A, Reference("r", "t", "k", "u"))
        self.refused(base, ("WrongSort", ()), A, Reference("r", "t", "b", "u"))
        self.refused(base, ("WrongSort", ()), A, Reference("r", "t", "n", "t"))
        self.refused(base, ("WrongSort", ()), A, Reference("r", "t", "k", "u", rule="empty"))
        self.refused(base, ("InvalidRule", "empty"), A, Reference("r", "t", "m", "u", rule="empty"))
        self.refused(base, ("InvalidRule", "empty"), A, Reference("r", "t", "k", "t", rule="empty"))
        base.define(A, Reference("r", "t", "m", "u", rule="cascade"))
        base.define(A, Reference("s", "t", "m", "u", rule="restrict"))
        base.define(A, Reference("e", "t", "n", "u", rule="empty"))
        base.define(A, Reference("k", "t", "k", "t", rule="restrict"))

    def test_columns_of_indexes(self):
        base = base_of(T)
        self.refused(base, ("UnknownColumn", "q"), A, Index("i", "t", "q"))
        for column in ("k", "n", "b", "m"):
            base.define(A, Index(column, "t", column))

    def test_several_reasons_at_once(self):
        base = base_of(T, U, view("v", "t"), Index("i", "t", "n"))
        put(base, (LOW, "t:-", ("x", 1, True, 2)))
        self.refused(base, ("InvalidLabel", Label("c")), Label("c"), 5)
        self.refused(base, ("NameTaken", "v"), LOW, view("v", "nothing"))
        self.refused(base, ("NameTaken", "i"), LOW, Index("i", "nothing", "q"))
        self.refused(base, ("UnknownSource", "nothing"), LOW, Reference("r", "t", "q", "nothing", rule="empty"))
        self.refused(base, ("UnknownColumn", "q"), LOW, Check("c", "t", "(and (less n q) (not n))"))
        self.refused(base, ("WrongSort", (0,)), LOW, Check("c", "t", "(and (not n) (less n q))"))
        self.refused(base, ("WrongSort", ()), LOW, Reference("r", "t", "b", "u", rule="empty"))
        self.refused(base, ("InvalidRule", "empty"), LOW, Reference("r", "t", "m", "u", rule="empty"))
        self.refused(base, ("WouldSuspend", "t:-", "x"), LOW, Reference("r", "t", "m", "u"))

    def test_an_entry_that_is_changed_later(self):
        base = Base("a")
        entry = table("t", "k:text")
        base.define(LOW, entry)
        entry.name = "other"
        self.assertEqual(base.entries(LOW), [("table", "t", (("k", "text", False),))])

    def test_by_name(self):
        base = Base("a")
        base.define(label=LOW, entry=T)
        base.drop(label=LOW, kind="table", name="t")
        self.assertEqual(base, Base("a"))


class WouldSuspendTest(RefusalTest):
    def test_rows_of_the_own_layer(self):
        base = put(base_of(U, T), (LOW, "u:-", (5, "b")), (LOW, "u:-", (3, "c")), (LOW, "t:-", ("x", 5, None, 9)))
        self.refused(base, ("WouldSuspend", "u:-", 3), LOW, Check("c", "u", "(same s 'b')"))
        self.refused(base, ("WouldSuspend", "u:-", 5), LOW, Check("c", "u", "(same s 'c')"))
        self.refused(base, ("WouldSuspend", "t:-", "x"), LOW, Reference("r", "t", "m", "u"))
        base.define(LOW, Reference("r", "t", "n", "u"))
        # the first row, tables in catalog order: the row of u itself, then what refers to it
        self.refused(base, ("WouldSuspend", "u:-", 3), LOW, Check("c", "u", "false"))

    def test_the_first_row_is_that_of_the_first_table(self):
        base = put(base_of(T, U), (LOW, "u:-", (5, "b")), (LOW, "t:-", ("x", 5, None, 9)))
        base.define(LOW, Reference("r", "t", "n", "u"))
        self.refused(base, ("WouldSuspend", "t:-", "x"), LOW, Check("c", "u", "false"))

    def test_keys_in_their_order(self):
        base = put(base_of(U), (LOW, "u:-", (10, "b")), (LOW, "u:-", (9, "b")), (LOW, "u:-", (-1, None)))
        self.refused(base, ("WouldSuspend", "u:-", 9), LOW, Check("c", "u", "(same s 'c')"))

    def test_a_row_of_the_own_layer_that_refers_to_one_from_below(self):
        base = put(base_of(U, T), (LOW, "u:-", (5, "b")), (A, "t:-", ("x", 5, None, 9)))
        base.define(A, Reference("r", "t", "n", "u"))
        self.refused(base, ("WouldSuspend", "t:-", "x"), A, Check("c", "u", "(same s 'c')"))

    def test_rows_from_below_are_suspended(self):
        base = put(base_of(U), (LOW, "u:-", (5, "b")), (A, "u:-", (6, "c")))
        base.define(A, Check("c", "u", "(same s 'c')"))
        self.assertEqual(lost(base.world(A)), [("u:-", 5, "-", 1, ("check", "c", "a"))])
        self.assertEqual(lost(base.world(LOW)), [])
        self.assertEqual(lost(base.world(B)), [])

    def test_rows_of_labels_above_make_no_difference(self):
        base = put(base_of(U), (A, "u:-", (5, "b")))
        base.define(LOW, Check("c", "u", "(same s 'c')"))
        self.assertEqual(lost(base.world(A)), [("u:-", 5, "a", 1, ("check", "c", "-"))])

    def test_rows_that_are_suspended_already(self):
        base = put(base_of(U), (LOW, "u:-", (5, "b", 7)))
        base.define(LOW, Check("c", "u", "false"))
        self.assertEqual(lost(base.world(LOW)), [("u:-", 5, "-", 1, ("row",))])

    def test_empty_checks_and_covered_rows(self):
        base = put(base_of(U), (LOW, "u:-", (5, None)), (LOW, "u:-", (6, "b")), (A, "u:-", (6, "c")))
        base.mark_gone(A, "u:-", 5)
        base.define(A, Check("c", "u", "(same s 'c')"))
        self.assertEqual(lost(base.world(A)), [])
        self.refused(base, ("WouldSuspend", "u:-", 6), LOW, Check("c", "u", "(same s 'c')"))


class DropTest(RefusalTest):
    def test_each_kind(self):
        made = [T, U, view("v", "t"), Check("c", "t", "true"), Reference("r", "t", "n", "u"), Index("i", "t", "n"),
                Right("g", "ann", "a")]
        for label in (LOW, AB):
            base = base_of(*[(label, entry) for entry in made])
            for kind, name in (("right", "g"), ("index", "i"), ("reference", "r"), ("check", "c"), ("view", "v"),
                               ("table", "u"), ("table", "t")):
                self.assertIsNone(base.drop(label, kind, name))
            self.assertEqual(base, Base("a", "b"))

    def test_the_others_stay_in_sequence(self):
        base = base_of(T, Index("a", "t", "n"), Index("b", "t", "n"), Check("b", "t", "true"), Index("c", "t", "n"))
        base.drop(LOW, "index", "b")
        self.assertEqual([told[:2] for told in base.entries(LOW)],
                         [("table", "t"), ("index", "a"), ("check", "b"), ("index", "c")])

    def test_labels_kinds_and_names(self):
        base = base_of(T, (A, U), (A, view("v", "t")))
        self.not_dropped(base, ("InvalidLabel", Label("c")), Label("c"), "nothing", "t")
        for value in every_kind():
            if not isinstance(value, Label):
                self.assertEqual(error_of(base.drop, value, "table", "t")[0], "InvalidLabel")
            told = error_of(base.drop, LOW, value, "t")
            self.assertEqual(told[0], "UnknownKind")
            self.assertIs(told[1], value)
            told = error_of(base.drop, LOW, "table", value)
            self.assertEqual(told[0], "UnknownEntry")
            self.assertIs(told[1], value)
        self.not_dropped(base, ("UnknownKind", "tables"), LOW, "tables", 5)
        self.not_dropped(base, ("UnknownEntry", "u"), LOW, "table", "u")
        self.not_dropped(base, ("UnknownEntry", "t"), A, "table", "t")
        self.not_dropped(base, ("UnknownEntry", "t:-"), LOW, "table", "t:-")
        self.not_dropped(base, ("UnknownEntry", "t"), LOW, "view", "t")
        self.not_dropped(base, ("UnknownEntry", "v"), A, "table", "v")
        self.not_dropped(base, ("UnknownEntry", "t"), LOW, "index", "t")

    def test_sources_that_are_in_use(self):
        users = [view("v", "t"), Check("c", "t", "true"), Reference("r", "t", "n", "u"), Index("i", "t", "n")]
        for entry in users:
            base = base_of(T, U, entry)
            self.not_dropped(base, ("InUse", entry.KIND, entry.name), LOW, "table", "t")
        base = base_of(T, U, users[2])
        self.not_dropped(base, ("InUse", "reference", "r"), LOW, "table", "u")
        base = base_of(T, U, *users[::-1])
        self.not_dropped(base, ("InUse", "index", "i"), LOW, "table", "t")
        base.drop(LOW, "index", "i")
        self.not_dropped(base, ("InUse", "reference", "r"), LOW, "table", "t")
        base = base_of(T, users[0], view("w", "v"))
        self.not_dropped(base, ("InUse", "view", "w"), LOW, "view", "v")

    def test_entries_of_other_labels_do_not_use(self):
        base = base_of(T, (A, view("v", "t")), (A, view("t", "t")), (AB, Check("c", "t:-", "true")))
        base.drop(LOW, "table", "t")
        self.not_dropped(base, ("UnknownEntry", "t"), LOW, "table", "t")
        base.drop(A, "view", "t")
        self.assertEqual(base.entries(A)[0][:2], ("view", "v"))

    def test_only_what_is_bound_to_the_id_uses_it(self):
        base = base_of(T, (A, T), (A, Index("i", "t:-", "n")), (A, Index("t", "t:-", "n")), (A, Check("c", "t", "b")))
        self.not_dropped(base, ("InUse", "check", "c"), A, "table", "t")
        base.drop(A, "check", "c")
        base.drop(A, "table", "t")
        self.assertEqual([told[1] for told in base.entries(A)], ["i", "t"])

    def test_entries_of_other_kinds_are_not_used(self):
        base = base_of(T, U, Index("t", "t", "n"), Check("t", "u", "true"), view("v", "t"))
        base.drop(LOW, "index", "t")
        base.drop(LOW, "check", "t")
        self.assertEqual([told[1] for told in base.entries(LOW)], ["t", "u", "v"])

    def test_dropping_a_table_empties_its_own_layer(self):
        base = put(base_of(T, U), (LOW, "t:-", ("x", 1, None, 2)), (A, "t:-", ("x", 3, None, 4)), (LOW, "u:-", (1, "t")))
        base.mark_gone(LOW, "t:-", "y")
        base.mark_gone(A, "t:-", "z")
        base.drop(LOW, "table", "t")
        self.assertEqual(base.layer(LOW, "t:-"), {})
        self.assertEqual(base.layer(A, "t:-"), {"x": ("x", 3, None, 4), "z": "gone"})
        self.assertEqual(base.layer(LOW, "u:-"), {1: (1, "t")})
        self.assertEqual(lost(base.world(A)), [("t:-", "x", "a", 1, ("table",))])
        self.assertEqual(lost(base.world(LOW)), [])
        base.define(LOW, T)
        self.assertEqual(list(base.world(LOW).rows("t")), [])
        self.assertEqual(list(base.world(A).rows("t")), [("x", ("x", 3, None, 4), A)])

    def test_dropping_a_view_empties_nothing(self):
        base = put(base_of(T, view("u", "t")), (LOW, "u:-", (1, 2)))
        base.drop(LOW, "view", "u")
        self.assertEqual(base.layer(LOW, "u:-"), {1: (1, 2)})

    def test_dropping_a_rule_lets_rows_stand_again(self):
        base = put(base_of(U), (LOW, "u:-", (5, "b")))
        base.define(A, Check("c", "u", "false"))
        self.assertEqual(len(base.world(A)), 0)
        base.drop(A, "check", "c")
        self.assertEqual(len(base.world(A)), 1)


class MarksTest(unittest.TestCase):
    def test_marks(self):
        self.assertEqual(Base().marks, ())
        self.assertEqual(Base("b", "a", "b").marks, ("a", "b"))
        self.assertEqual(Base("d", "c", "b", "a", "a").marks, ("a", "b", "c", "d"))
        self.assertRaises(TooMany, Base, "a", "b", "c", "d", "e")
        self.assertEqual(error_of(Base, "a", "b", "c", "d", "e"), ("TooMany", "marks", 4))
        self.assertRaises(InvalidName, Base, "a", "B")
        self.assertEqual(error_of(Base, "a", "B", "", "b", "c", "d", "e"), ("InvalidName", "B"))
        for value in every_kind():
            if not is_name(value):
                told = error_of(Base, "a", value)
                self.assertEqual(told[0], "InvalidName")
                self.assertIs(told[1], value)

    def test_other_errors_ahead(self):
        self.assertEqual(end_of(Base, "a", "b", "c", "d", "e", 5), ("error", ("InvalidName", 5)))


if __name__ == "__main__":
    unittest.main()
