"""[19], [20]: writers, their changes, inserts and changes of rows."""

import unittest

from aboveless.base import Base
from aboveless.entries import Check, Entry, Index, Reference, View
from aboveless.labels import Label
from aboveless.writes import Writer
from tests.helpers import error_of, every_kind, exact, unchanged
from tests.samples import A, AB, B, LOW, base_of, kept, put, state, table

T = table("t", "k:text", "n:int?", "b:truth?", "m:int")
U = table("u", "k:int", "p:int?", "s:text?")
VIEW = View("v", "(select (items (k x.k)) (from (x u)))")


class WriteCase(unittest.TestCase):
    def refused(self, writer, base, error, call, *given):
        """Checks that a call raises an error behind which nothing has changed."""
        before, told, reached, changes = base.clone(), state(base), writer.given, writer.changes()
        self.assertEqual(exact(error_of(call, *given)), exact(error))
        self.assertEqual((base, state(base), writer.given, writer.changes()), (before, told, reached, changes))
        self.assertEqual(exact(error_of(call, *given)), exact(error))

    def made(self, writer, base, changes, call, *given):
        """Checks the changes that a call makes; returns what it returns."""
        before, earlier = base.clone(), writer.changes()
        others = [(label, base.entries(label)) for label in (LOW, A, B, AB)]
        returned = unchanged(self, call, *given)
        self.assertEqual(exact(writer.changes()), exact(earlier + changes))
        label = self.label
        before.apply(label, changes)
        self.assertEqual(base, before)
        for other, entries in others:
            if other != label:
                self.assertEqual(base.entries(other), entries)
        return returned

    label = A


class WriterTest(WriteCase):
    def test_labels_and_counts(self):
        base = base_of(U)
        for value in [value for value in every_kind() if not isinstance(value, Label)] + [Label("c"), Label("a", "c")]:
            told = error_of(lambda: Writer(base, value, session=-1, given=-1))
            self.assertEqual(told[0], "InvalidLabel")
            self.assertIs(told[1], value)
        for value in every_kind():
            if exact(value)[0] != "int" or value < 0:
                told = error_of(lambda: Writer(base, A, session=value, given="x"))
                self.assertEqual(told[0], "InvalidCount")
                self.assertIs(told[1], value)
                told = error_of(lambda: Writer(base, A, given=value))
                self.assertEqual(told[0], "InvalidCount")
                self.assertIs(told[1], value)
        self.assertEqual(Writer(base, A).given, 0)
        self.assertEqual(Writer(base=base, label=A, session=3, given=7).given, 7)
        self.assertEqual(Writer(base, A).changes(), [])
        self.assertRaises(TypeError, Writer, base, A, 0)

    def test_entries(self):
        base = base_of(U)
        writer = Writer(base, A)
        told = ("view", "v", "(select (items (k x.k)) (from (x u:-)))")
        self.assertIsNone(self.made(writer, base, [("define", told)], writer.define, VIEW))
        told = ("table", "t", (("k", "text", False), ("n", "int", True), ("b", "truth", True), ("m", "int", False)))
        self.made(writer, base, [("define", told)], writer.define, T)
        self.made(writer, base, [("define", ("index", "i", "t:a", "n"))], writer.define, Index("i", "t", "n"))
        self.made(writer, base, [("define", ("reference", "r", "t:a", "m", "u:-", "cascade"))],
                  writer.define, Reference("r", "t", "m", "u", rule="cascade"))
        self.assertIsNone(self.made(writer, base, [("drop", "view", "v")], writer.drop, "view", "v"))
        self.made(writer, base, [("drop", "index", "i")], writer.drop, "index", "i")
        self.assertEqual([entry[1] for entry in base.entries(A)], ["t", "r"])
        self.assertEqual(base.entries(LOW), base_of(U).entries(LOW))

    def test_dropping_a_table_with_rows(self):
        base = base_of((A, U))
        writer = Writer(base, A)
        writer.add_row("u", [1, None, None])
        self.made(writer, base, [("drop", "table", "u")], writer.drop, "table", "u")
        self.assertEqual(base.layer(A, "u:a"), {})

    def test_errors_of_entries(self):
        base = put(base_of(U, T, (A, Index("i", "u", "k")), (A, VIEW)), (A, "u:-", (1, 2, None)))
        writer = Writer(base, A)
        self.refused(writer, base, ("InvalidEntry", 5), writer.define, 5)
        entry = Entry("a")
        self.assertIs(error_of(writer.define, entry)[1], entry)
        self.refused(writer, base, ("NameTaken", "i"), writer.define, Index("i", "x", "y"))
        self.refused(writer, base, ("UnknownSource", "x"), writer.define, Index("j", "x", "y"))
        self.refused(writer, base, ("UnknownSource", "v"), writer.define, Index("j", "v", "k"))
        self.refused(writer, base, ("UnknownColumn", "q"), writer.define, Index("j", "u", "q"))
        self.refused(writer, base, ("WrongSort", ()), writer.define, Check("c", "u", "p"))
        self.refused(writer, base, ("InvalidRule", "empty"), writer.define, Reference("r", "u", "k", "u", rule="empty"))
        self.refused(writer, base, ("WouldSuspend", "u:-", 1), writer.define, Reference("r", "u", "p", "u"))
        self.refused(writer, base, ("UnknownKind", "x"), writer.drop, "x", "i")
        self.refused(writer, base, ("UnknownEntry", "u"), writer.drop, "table", "u")
        writer.define(U)
        writer.define(Index("z", "u", "k"))
        self.refused(writer, base, ("InUse", "index", "z"), writer.drop, "table", "u")

    def test_changes_give_the_database(self):
        base = base_of(U)
        start = base.clone()
        writer, other = Writer(base, A), Writer(base, LOW, session=2)
        writer.define(T)
        writer.add_row("t", [None, 1, True, 2])
        other.define(Index("i", "u", "p"))
        writer.add_row("u", [1, None, None])
        writer.change_row("u", 1, {"p": 5})
        other.add_row("u", [2, None, "q"])
        writer.take_row("u", 2)
        writer.take_row("t", "a.0.0")
        writer.revert_row("u", 2)
        other.drop("index", "i")
        self.assertEqual(writer.changes(), [
            ("define", T.told()), ("put", "t:a", ("a.0.0", 1, True, 2)), ("put", "u:-", (1, None, None)),
            ("put", "u:-", (1, 5, None)), ("gone", "u:-", 2), ("clear", "t:a", "a.0.0"), ("clear", "u:-", 2),
        ])
        self.assertEqual(other.changes(), [
            ("define", ("index", "i", "u:-", "p")), ("put", "u:-", (2, None, "q")), ("drop", "index", "i")])
        start.apply(LOW, other.changes())
        start.apply(A, writer.changes())
        self.assertEqual(start, base)

    def test_changes_are_new(self):
        base = base_of(U)
        writer = Writer(base, A)
        writer.add_row("u", [1, None, None])
        writer.changes().append(5)
        self.assertEqual(writer.changes(), [("put", "u:-", (1, None, None))])

    def test_the_database_itself_is_written(self):
        base = base_of(U)
        first, second = Writer(base, A), Writer(base, A)
        first.add_row("u", [1, None, None])
        self.refused(second, base, ("Taken", 1), second.add_row, "u", [1, None, None])
        base.drop_entry(A, "u:-", 1)
        second.add_row("u", [1, 2, None])
        self.assertEqual(base.layer(A, "u:-"), {1: (1, 2, None)})


class InsertTest(WriteCase):
    def test_keys_that_are_passed(self):
        base = base_of(U, T)
        writer = Writer(base, A)
        row = (5, None, "x")
        self.assertEqual(self.made(writer, base, [("put", "u:-", row)], writer.add_row, "u", [5, None, "x"]), 5)
        self.assertEqual(self.made(writer, base, [("put", "u:-", (-6, 1, None))], writer.add_row, "u:-", (-6, 1, None)), -6)
        self.made(writer, base, [("put", "t:-", ("x", 1, True, 2))], writer.add_row, "t", ["x", 1, True, 2])
        self.assertEqual(writer.add_row(table="t", values=["", None, None, 0]), "")
        self.assertEqual(writer.given, 0)
        self.assertEqual(kept(base.world(A), "u"), [((-6, 1, None), "a"), ((5, None, "x"), "a")])
        self.assertEqual(kept(base.world(LOW), "u"), [])

    def test_numbers(self):
        for label, session, given, keys in ((A, 0, 0, ("a.0.0", "a.0.1")), (LOW, 3, 0, ("-.3.0", "-.3.1")),
                                            (AB, 12, 7, ("a+b.12.7", "a+b.12.8"))):
            base = base_of(T)
            writer = Writer(base, label, session=session, given=given)
            for at, key in enumerate(keys):
                self.assertEqual(writer.given, given + at)
                self.assertEqual(writer.add_row("t", [None, None, None, 1]), key)
            self.assertEqual(writer.given, given + 2)
            self.assertEqual(list(base.layer(label, "t:-")), list(keys))

    def test_numbers_over_several_tables(self):
        base = base_of(T, table("w", "k:text"))
        writer = Writer(base, A)
        self.assertEqual([writer.add_row("t", (None, None, None, 1)), writer.add_row("w", [None]), writer.add_row("w", ["x"]),
                          writer.add_row("t", (None, None, None, 1))], ["a.0.0", "a.0.1", "x", "a.0.2"])

    def test_numbers_that_are_taken(self):
        base = base_of(T, (A, Check("c", "t", "(less m 5)")))
        base.put_row(LOW, "t:-", ("a.0.0", 1, True, 2))
        base.put_row(A, "t:-", ("a.0.1", 1, True, 2))
        base.mark_gone(A, "t:-", "a.0.2")
        base.put_row(A, "t:-", ("a.0.3", 1, True, 7))
        base.put_row(A, "t:-", ("a.0.5", 1, True, 2))
        writer = Writer(base, A)
        self.assertEqual(writer.add_row("t", [None, 1, True, 2]), "a.0.4")
        self.assertEqual(writer.given, 5)
        self.assertEqual(writer.add_row("t", [None, 1, True, 2]), "a.0.6")
        self.assertEqual(writer.given, 7)

    def test_numbers_of_others_are_not_taken(self):
        base = base_of(T, (A, Check("c", "t", "(less m 5)")))
        # suspended from below, gone below, and at labels that are not below
        base.put_row(LOW, "t:-", ("a.0.0", 1, True, 7))
        base.mark_gone(LOW, "t:-", "a.0.1")
        base.put_row(AB, "t:-", ("a.0.2", 1, True, 2))
        base.put_row(B, "t:-", ("a.0.3", 1, True, 2))
        writer = Writer(base, A)
        self.assertEqual([writer.add_row("t", [None, 1, True, 2]) for _ in range(4)], ["a.0.0", "a.0.1", "a.0.2", "a.0.3"])

    def test_the_number_behind_a_refused_insert(self):
        base = base_of(U, T, Check("c", "t", "(less m 5)"), Reference("r", "t", "m", "u"))
        put(base, (LOW, "u:-", (1, None, None)), (LOW, "t:-", ("a.0.0", None, None, 1)))
        writer = Writer(base, A)
        self.refused(writer, base, ("Broken", "c", "a.0.1"), writer.add_row, "t", [None, 1, True, 7])
        self.refused(writer, base, ("Missing", "r", 2), writer.add_row, "t", [None, 1, True, 2])
        self.refused(writer, base, ("WrongValues", (None, 1, 1, 2)), writer.add_row, "t", [None, 1, 1, 2])
        self.assertEqual(writer.given, 0)
        self.assertEqual(writer.add_row("t", [None, 1, True, 1]), "a.0.1")
        self.assertEqual(writer.given, 2)

    def test_wrong_values(self):
        base = base_of(U, T)
        writer = Writer(base, A)
        for values in ([], ["x"], ["x", 1, True], ["x", 1, True, 2, 3], [1, 1, True, 2], ["x", "1", True, 2], ["x", True, True, 2],
                       ["x", 1, 1, 2], ["x", 1, True, None], ["x", 1, True, False], ["x'", 1, True, 2], ["x" * 61, 1, True, 2],
                       [None], [None, 1, True], [None, 1, True, None], [None, 10 ** 30, True, 1], ["x", [], True, 1],
                       [True, 1, True, 2], [b"x", 1, True, 2]):
            self.refused(writer, base, ("WrongValues", tuple(values)), writer.add_row, "t", values)
            self.refused(writer, base, ("WrongValues", tuple(values)), writer.add_row, "t:-", tuple(values))
        for values in ([None, None, None], [None], [True, None, None], ["1", None, None], [1, None]):
            self.refused(writer, base, ("WrongValues", tuple(values)), writer.add_row, "u", values)

    def test_unknown_sources(self):
        base = base_of(U, T, (A, VIEW), (B, table("w", "k:int")))
        writer = Writer(base, A)
        values = {"u": [1, None, None]}
        for value in every_kind() + ["v", "v:a", "w", "w:b", "u:a", "u:"]:
            for call in (lambda: writer.add_row(value, []), lambda: writer.change_row(value, [], {}),
                         lambda: writer.take_row(value, []), lambda: writer.revert_row(value, [])):
                told = error_of(call)
                self.assertEqual(told[0], "UnknownSource")
                self.assertIs(told[1], value)
        self.refused(writer, base, ("UnknownSource", "v"), writer.add_row, "v", values["u"])

    def test_a_suspended_table(self):
        base = base_of(U, (A, table("w", "k:int")))
        base.drop(LOW, "table", "u")
        self.refused(Writer(base, A), base, ("UnknownSource", "u:-"), Writer(base, A).add_row, "u:-", [1, None, None])

    def test_taken(self):
        base = put(base_of(U), (LOW, "u:-", (1, None, None)), (A, "u:-", (2, None, None)), (AB, "u:-", (3, None, None)))
        writer = Writer(base, A)
        self.refused(writer, base, ("Taken", 1), writer.add_row, "u", [1, None, None])
        self.refused(writer, base, ("Taken", 2), writer.add_row, "u", [2, 5, "x"])
        writer.add_row("u", [3, None, None])

    def test_waiting(self):
        base = base_of(U, Check("c", "u", "(less p 5)"), Reference("r", "u", "p", "u"))
        put(base, (A, "u:-", (1, 7, None)), (A, "u:-", (2, 3, None)), (LOW, "u:-", (4, 6, None)), (A, "u:-", (5,)))
        writer = Writer(base, A)
        for key in (1, 2, 5):
            self.refused(writer, base, ("Waiting", key), writer.add_row, "u", [key, None, None])
        # a suspended row from below is covered
        self.made(writer, base, [("put", "u:-", (4, None, None))], writer.add_row, "u", [4, None, None])
        self.assertEqual(base.layer(LOW, "u:-"), {4: (4, 6, None)})

    def test_gone(self):
        base = put(base_of(U), (LOW, "u:-", (1, None, None)))
        base.mark_gone(A, "u:-", 1)
        base.mark_gone(A, "u:-", 2)
        writer = Writer(base, A)
        for key in (1, 2):
            self.made(writer, base, [("put", "u:-", (key, None, None))], writer.add_row, "u", [key, None, None])
        self.assertEqual(len(base.world(A)), 2)

    def test_broken(self):
        base = base_of(U, (A, Check("z", "u", "(less p 3)")), Check("c", "u", "(less p 5)"), Check("b", "u", "(less p 5)"))
        writer = Writer(base, A)
        self.refused(writer, base, ("Broken", "c", 1), writer.add_row, "u", [1, 5, None])
        self.refused(writer, base, ("Broken", "z", 1), writer.add_row, "u", [1, 4, None])
        writer.add_row("u", [1, 2, None])
        # an empty check is allowed
        writer.add_row("u", [2, None, None])
        Writer(base, B).add_row("u", [3, 4, None])

    def test_missing(self):
        base = base_of(U, T, (A, Reference("z", "t", "n", "u")), Reference("r", "t", "m", "u"), Reference("q", "t", "n", "u"))
        put(base, (LOW, "u:-", (1, None, None)), (A, "u:-", (2, None, None)), (B, "u:-", (3, None, None)), (A, "u:-", (4, "x")))
        writer = Writer(base, A)
        self.refused(writer, base, ("Missing", "r", 3), writer.add_row, "t", ["x", 5, None, 3])
        self.refused(writer, base, ("Missing", "q", 4), writer.add_row, "t", ["x", 4, None, 1])
        self.refused(writer, base, ("Missing", "r", 9), writer.add_row, "t", ["x", None, None, 9])
        writer.add_row("t", ["x", 1, None, 2])
        writer.add_row("t", ["y", None, None, 1])
        other = Writer(base, LOW)
        self.refused(other, base, ("Missing", "r", 2), other.add_row, "t", ["x", 1, None, 2])

    def test_a_reference_of_a_row_to_itself(self):
        base = base_of(U, T, Reference("r", "u", "p", "u"), Reference("s", "t", "n", "u"))
        writer = Writer(base, A)
        self.refused(writer, base, ("Missing", "r", 2), writer.add_row, "u", [1, 2, None])
        writer.add_row("u", [1, 1, None])
        # the same key of another table is not the row itself
        base = base_of(U, table("w", "k:int", "n:int?"), Reference("s", "w", "n", "u"))
        writer = Writer(base, A)
        self.refused(writer, base, ("Missing", "s", 1), writer.add_row, "w", [1, 1])

    def test_a_number_to_which_the_row_itself_refers(self):
        base = base_of(table("w", "k:text", "o:text?"), Reference("r", "w", "o", "w"))
        writer = Writer(base, A)
        self.refused(writer, base, ("Missing", "r", "a.0.1"), writer.add_row, "w", [None, "a.0.1"])
        self.assertEqual(writer.add_row("w", [None, "a.0.0"]), "a.0.0")

    def test_several_reasons_at_once(self):
        base = base_of(U, Check("c", "u", "(less p 5)"), Reference("r", "u", "p", "u"))
        put(base, (LOW, "u:-", (1, None, None)), (A, "u:-", (2, 7, None)))
        writer = Writer(base, A)
        self.refused(writer, base, ("UnknownSource", "x"), writer.add_row, "x", [1, 7])
        self.refused(writer, base, ("WrongValues", (1, 7)), writer.add_row, "u", [1, 7])
        self.refused(writer, base, ("Taken", 1), writer.add_row, "u", [1, 7, None])
        self.refused(writer, base, ("Waiting", 2), writer.add_row, "u", [2, 7, None])
        self.refused(writer, base, ("Broken", "c", 3), writer.add_row, "u", [3, 7, None])
        self.refused(writer, base, ("Missing", "r", 4), writer.add_row, "u", [3, 4, None])

    def test_a_suspended_row_that_stands_behind_an_insert(self):
        base = put(base_of(U, Reference("r", "u", "p", "u")), (LOW, "u:-", (1, 2, None)))
        Writer(base, A).add_row("u", [2, None, None])
        self.assertEqual((len(base.world(A)), len(base.world(LOW))), (2, 0))


class ChangeTest(WriteCase):
    def test_rows_of_the_own_layer_and_from_below(self):
        base = put(base_of(U), (LOW, "u:-", (1, 2, "x")), (A, "u:-", (3, 4, "y")))
        writer = Writer(base, A)
        self.assertIsNone(self.made(writer, base, [("put", "u:-", (1, 9, "x"))], writer.change_row, "u", 1, {"p": 9}))
        self.made(writer, base, [("put", "u:-", (3, 4, None))], writer.change_row, "u:-", 3, {"s": None})
        self.made(writer, base, [("put", "u:-", (3, None, "z"))], writer.change_row, "u", 3, {"s": "z", "p": None})
        self.assertEqual(base.layer(LOW, "u:-"), {1: (1, 2, "x")})
        writer.change_row(table="u", key=1, columns={"p": 8})
        self.assertEqual(base.layer(A, "u:-")[1], (1, 8, "x"))

    def test_a_row_that_is_as_it_was(self):
        base = put(base_of(U), (LOW, "u:-", (1, 2, "x")))
        writer = Writer(base, A)
        for _ in range(2):
            self.made(writer, base, [("put", "u:-", (1, 2, "x"))], writer.change_row, "u", 1, {"p": 2})

    def test_no_columns(self):
        base = put(base_of(U), (LOW, "u:-", (1, 2, "x")))
        writer = Writer(base, A)
        self.assertIsNone(self.made(writer, base, [], writer.change_row, "u", 1, {}))
        self.refused(writer, base, ("NoRow", 2), writer.change_row, "u", 2, {})

    def test_no_row(self):
        base = put(base_of(U, Check("c", "u", "(less p 5)")), (LOW, "u:-", (1, 2, "x")), (A, "u:-", (2, 7, "x")), (AB, "u:-", (3,)))
        base.mark_gone(A, "u:-", 1)
        writer = Writer(base, A)
        for key in (1, 2, 3, 4, "1"):
            self.refused(writer, base, ("NoRow", key), writer.change_row, "u", key, {"q": 5})
        base.drop_entry(A, "u:-", 1)
        for value in every_kind():
            if exact(value) != ("int", 1):
                told = error_of(writer.change_row, "u", value, {"p": 1})
                self.assertEqual(told[0], "NoRow")
                self.assertIs(told[1], value)
        self.refused(writer, base, ("UnknownSource", "x"), writer.change_row, "x", 9, {"q": 5})

    def test_unknown_columns(self):
        base = put(base_of(U), (LOW, "u:-", (1, 2, "x")))
        writer = Writer(base, A)
        self.refused(writer, base, ("UnknownColumn", "k"), writer.change_row, "u", 1, {"k": 1})
        self.refused(writer, base, ("UnknownColumn", "k"), writer.change_row, "u", 1, {"q": 1, "p": "no", "k": 1})
        self.refused(writer, base, ("UnknownColumn", "a b"), writer.change_row, "u", 1, {"q": 1, "a b": "no", "p": 1, "k": 2})
        self.refused(writer, base, ("UnknownColumn", ""), writer.change_row, "u", 1, {"q": 1, "": "no"})
        self.refused(writer, base, ("UnknownColumn", "u.p"), writer.change_row, "u", 1, {"u.p": 1})

    def test_wrong_values(self):
        base = put(base_of(T), (LOW, "t:-", ("x", 2, True, 1)))
        writer = Writer(base, A)
        for columns, wrong in (
            ({"m": None}, (("m", None),)), ({"b": 1}, (("b", 1),)), ({"n": True}, (("n", True),)),
            ({"m": None, "n": 1}, (("n", 1), ("m", None))), ({"m": 1, "b": "x", "n": 5}, (("n", 5), ("b", "x"), ("m", 1))),
            ({"n": 10 ** 30}, (("n", 10 ** 30),)), ({"n": [1]}, (("n", [1]),)),
        ):
            self.refused(writer, base, ("WrongValues", wrong), writer.change_row, "t", "x", columns)

    def test_broken_and_missing(self):
        base = base_of(U, Check("d", "u", "(less p 5)"), (A, Check("c", "u", "(less p 4)")), Reference("r", "u", "p", "u"))
        put(base, (LOW, "u:-", (1, None, None)), (LOW, "u:-", (2, 1, None)))
        writer = Writer(base, A)
        self.refused(writer, base, ("Broken", "d", 2), writer.change_row, "u", 2, {"p": 5})
        self.refused(writer, base, ("Broken", "c", 2), writer.change_row, "u", 2, {"p": 4})
        self.refused(writer, base, ("Missing", "r", 3), writer.change_row, "u", 2, {"p": 3})
        self.made(writer, base, [("put", "u:-", (2, 2, None))], writer.change_row, "u", 2, {"p": 2})
        self.made(writer, base, [("put", "u:-", (1, 2, "x"))], writer.change_row, "u", 1, {"p": 2, "s": "x"})
        self.assertEqual(len(base.world(A)), 2)


class NothingAboveTest(unittest.TestCase):
    def test_what_is_not_below_makes_no_difference(self):
        plain = base_of(U, T, Reference("r", "t", "n", "u", rule="cascade"))
        other = plain.clone()
        other.define(B, Check("c", "u", "false"))
        other.define(AB, Reference("s", "u", "p", "u"))
        put(other, (B, "u:-", (1, 1, "x")), (AB, "u:-", (2, None, None)), (B, "t:-", ("a.0.0", None, None, 1)),
            (AB, "t:-", ("y", 1, None, 1)))
        told = []
        for base in (plain, other):
            writer = Writer(base, A)
            calls = [
                (writer.add_row, "u", [1, None, None]), (writer.add_row, "t", [None, 1, None, 1]),
                (writer.add_row, "t", ["y", 2, None, 1]), (writer.add_row, "u", [2, None, "x"]),
                (writer.change_row, "u", 2, {"p": 7}), (writer.take_row, "u", 1), (writer.revert_row, "u", 2),
                (writer.define, Index("c", "u", "p")), (writer.add_row, "t", [None, None, None, 1]),
            ]
            told.append([error_of(*call) for call in calls] + [writer.changes(), writer.given, base.world(A).suspended()])
        self.assertEqual(told[0], told[1])
        self.assertEqual(plain.world(A), other.world(A))

    def test_worlds_above_may_lose_rows(self):
        base = base_of(U, (AB, Check("c", "u", "(less p 5)")), (AB, Reference("r", "u", "p", "u")))
        put(base, (AB, "u:-", (1, 2, None)), (A, "u:-", (2, None, None)))
        writer = Writer(base, A)
        writer.change_row("u", 2, {"p": 7})
        self.assertEqual(len(base.world(AB)), 0)
        writer.take_row("u", 2)
        self.assertEqual(len(base.world(AB)), 0)
        self.assertEqual(len(base.world(A)), 0)


if __name__ == "__main__":
    unittest.main()
