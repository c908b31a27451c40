"""[21], [22]: removes, what they take along and empty, and reverts."""

import random
import unittest

from aboveless.base import Base
from aboveless.entries import Check, Reference, View
from aboveless.rules import emptied, remove_set
from aboveless.values import is_key
from aboveless.writes import Writer
from tests.helpers import error_of, every_kind, exact
from tests.samples import A, AB, B, LOW, base_of, kept, put, table
from tests.test_writes import WriteCase

U = table("u", "k:int", "p:int?", "q:int?")
W = table("w", "k:text", "u:int?", "v:int?")


def refers(name, rule, column="p", source="u", target="u"):
    return Reference(name, source, column, target, rule=rule)


def rows(*told):
    """Rows of u for the least label."""
    return [(LOW, "u:-", row) for row in told]


def places(*keys):
    return [("u:-", key) for key in keys]


class RulesTest(unittest.TestCase):
    def told(self, world, text, key, removed, empty):
        for _ in range(2):
            self.assertEqual(remove_set(world, text, key), removed)
            self.assertEqual(emptied(world, text, key), empty)

    def test_without_references(self):
        world = put(base_of(U), *rows((1, 2, None), (2, 1, None))).world(LOW)
        self.told(world, "u", 1, places(1), [])
        self.told(world, "u:-", 2, places(2), [])

    def test_chains(self):
        told = rows((1, None, None), (2, 1, None), (10, 2, None), (9, 2, None), (3, None, 1))
        world = put(base_of(U, refers("r", "cascade")), *told).world(LOW)
        self.told(world, "u", 1, places(1, 2, 9, 10), [])
        self.told(world, "u", 2, places(2, 9, 10), [])
        self.told(world, "u", 9, places(9), [])
        world = put(base_of(U, refers("r", "empty")), *told).world(LOW)
        self.told(world, "u", 1, places(1), [("u:-", 2, "p")])
        self.told(world, "u", 2, places(2), [("u:-", 9, "p"), ("u:-", 10, "p")])
        world = put(base_of(U, refers("r", "restrict")), *told).world(LOW)
        self.told(world, "u", 1, places(1), [])

    def test_rings(self):
        told = rows((1, 2, None), (2, 3, None), (3, 1, None), (4, 4, None), (5, 4, None))
        world = put(base_of(U, refers("r", "cascade")), *told).world(LOW)
        for key in (1, 2, 3):
            self.told(world, "u", key, places(1, 2, 3), [])
        self.told(world, "u", 4, places(4, 5), [])
        world = put(base_of(U, refers("r", "empty")), *told).world(LOW)
        self.told(world, "u", 1, places(1), [("u:-", 3, "p")])
        self.told(world, "u", 4, places(4), [("u:-", 5, "p")])

    def test_several_references_of_one_row(self):
        base = base_of(U, refers("r", "empty"), refers("s", "empty", "q"), refers("t", "empty"))
        world = put(base, *rows((1, None, None), (2, 1, 1), (3, 2, 1))).world(LOW)
        self.told(world, "u", 1, places(1), [("u:-", 2, "p"), ("u:-", 2, "q"), ("u:-", 3, "q")])
        base = base_of(U, refers("r", "cascade"), refers("s", "empty", "q"))
        world = put(base, *rows((1, None, None), (2, 1, 1), (3, None, 2), (4, None, 1))).world(LOW)
        self.told(world, "u", 1, places(1, 2), [("u:-", 3, "q"), ("u:-", 4, "q")])

    def test_several_tables(self):
        base = base_of(W, U, (A, W), refers("r", "cascade", "u", "w"), (A, refers("s", "cascade", "u", "w:a")),
                       (A, refers("e", "empty", "v", "w:a")))
        put(base, *rows((1, None, None), (2, None, None)), (LOW, "w:-", ("b", 1, None)), (LOW, "w:-", ("a", 1, None)),
            (A, "w:a", ("c", 1, 2)), (A, "w:a", ("d", 2, 1)), (A, "w:a", ("a", None, 1)))
        self.told(base.world(A), "u", 1, [("u:-", 1), ("w:-", "a"), ("w:-", "b"), ("w:a", "c")],
                  [("w:a", "a", "v"), ("w:a", "d", "v")])
        self.told(base.world(LOW), "u", 1, [("u:-", 1), ("w:-", "a"), ("w:-", "b")], [])
        self.told(base.world(A), "w:-", "a", [("w:-", "a")], [])

    def test_emptied_are_sorted(self):
        base = base_of(W, U, (A, W), refers("z", "empty", "v", "w"), refers("y", "empty", "u", "w"), refers("x", "empty", "q"),
                       refers("r", "empty", "p"), (A, refers("z", "empty", "v", "w:a")))
        put(base, *rows((1, 1, 1), (10, 1, 1), (9, None, 1), (-1, 1, None)), (LOW, "w:-", ("b", 1, 1)), (LOW, "w:-", ("a", 1, 1)),
            (A, "w:a", ("a", 1, 1)))
        self.told(base.world(A), "u", 1, places(1), [
            ("u:-", -1, "p"), ("u:-", 9, "q"), ("u:-", 10, "p"), ("u:-", 10, "q"), ("w:-", "a", "u"), ("w:-", "a", "v"),
            ("w:-", "b", "u"), ("w:-", "b", "v"), ("w:a", "a", "v")])

    def test_only_rows_of_the_own_world(self):
        base = put(base_of(U, refers("r", "cascade")), *rows((1, None, None), (2, 1, None)), (A, "u:-", (3, 1, None)))
        base.define(A, Check("c", "u", "(not (same k 2))"))
        self.told(base.world(A), "u", 1, places(1, 3), [])
        self.told(base.world(B), "u", 1, places(1, 2), [])

    def test_errors(self):
        base = put(base_of(U, W, (A, View("v", "(select (items (k x.k)) (from (x u)))"))), *rows((1, None, None), (2,)))
        world = base.world(A)
        for call in (remove_set, emptied):
            for value in every_kind() + ["v", "v:a", "u:a"]:
                told = error_of(call, world, value, [])
                self.assertEqual(told[0], "UnknownSource")
                self.assertIs(told[1], value)
            for value in [value for value in every_kind() if exact(value) != ("int", 1)] + [2, 3]:
                told = error_of(call, world, "u", value)
                self.assertEqual(told[0], "NoRow")
                self.assertIs(told[1], value)
            call(world=world, text="u", key=1).append(5)
        self.told(world, "u", 1, places(1), [])


class RemoveTest(WriteCase):
    def removed(self, base, label, key, removed, changes, text="u"):
        self.label = label
        writer = Writer(base, label)
        before = base.world(label)
        self.assertEqual(self.made(writer, base, changes, writer.take_row, text, key), removed)
        # no row of the own world is suspended, and those that were not concerned are as before
        self.assertEqual(base.world(label).suspended(), before.suspended())

    def test_one_row(self):
        base = put(base_of(U), *rows((1, None, None), (2, None, None)), (A, "u:-", (2, 5, None)), (A, "u:-", (3, 5, None)))
        self.removed(base.clone(), LOW, 1, places(1), [("clear", "u:-", 1)])
        self.removed(base.clone(), A, 1, places(1), [("gone", "u:-", 1)])
        self.removed(base.clone(), A, 2, places(2), [("gone", "u:-", 2)])
        self.removed(base.clone(), A, 3, places(3), [("clear", "u:-", 3)])
        self.removed(base.clone(), AB, 3, places(3), [("gone", "u:-", 3)])
        for key in (1, 2):
            self.removed(base, A, key, places(key), [("gone", "u:-", key)])
            self.assertEqual(error_of(Writer(base, A).take_row, "u", key), ("NoRow", key))
        self.assertEqual(base.layer(LOW, "u:-"), {1: (1, None, None), 2: (2, None, None)})
        self.assertEqual(Writer(base, A).take_row(table="u:-", key=3), places(3))

    def test_gone_below(self):
        base = put(base_of(U), (AB, "u:-", (1, None, None)), (LOW, "u:-", (2, None, None)), (AB, "u:-", (2, 5, None)))
        base.mark_gone(A, "u:-", 1)
        self.removed(base.clone(), AB, 1, places(1), [("gone", "u:-", 1)])
        base.drop_entry(A, "u:-", 1)
        self.removed(base.clone(), AB, 1, places(1), [("clear", "u:-", 1)])
        self.removed(base.clone(), AB, 2, places(2), [("gone", "u:-", 2)])

    def test_entries_of_labels_that_are_not_below(self):
        base = put(base_of(U), (A, "u:-", (1, None, None)), (B, "u:-", (1, None, None)), (AB, "u:-", (1, None, None)))
        self.removed(base, A, 1, places(1), [("clear", "u:-", 1)])

    def test_a_table_of_the_own_label(self):
        base = put(base_of((AB, U)), (AB, "u:a+b", (1, None, None)))
        self.removed(base, AB, 1, [("u:a+b", 1)], [("clear", "u:a+b", 1)])

    def test_cascade(self):
        told = rows((1, None, None), (10, 1, None), (9, 10, None)) + [(A, "u:-", (2, 1, None)), (A, "u:-", (10, 1, 5))]
        base = put(base_of(W, U, refers("r", "cascade"), refers("s", "cascade", "u", "w")), *told,
                   (A, "w:-", ("x", 9, None)), (LOW, "w:-", ("y", 1, None)))
        self.removed(base.clone(), A, 1, places(1, 2, 9, 10) + [("w:-", "x"), ("w:-", "y")], [
            ("clear", "w:-", "x"), ("gone", "w:-", "y"), ("gone", "u:-", 1), ("clear", "u:-", 2), ("gone", "u:-", 9),
            ("gone", "u:-", 10)])
        self.removed(base.clone(), LOW, 10, places(9, 10), [("clear", "u:-", 9), ("clear", "u:-", 10)])
        self.removed(base.clone(), A, 10, places(9, 10) + [("w:-", "x")], [
            ("clear", "w:-", "x"), ("gone", "u:-", 9), ("gone", "u:-", 10)])

    def test_rings(self):
        told = rows((1, 2, None), (2, 3, None), (3, 1, None), (4, 4, None))
        for rule in ("cascade", "restrict", "empty"):
            base = put(base_of(U, refers("r", rule)), *told)
            self.removed(base.clone(), LOW, 4, places(4), [("clear", "u:-", 4)])
            if rule == "cascade":
                self.removed(base, LOW, 2, places(1, 2, 3), [("clear", "u:-", 1), ("clear", "u:-", 2), ("clear", "u:-", 3)])
            elif rule == "empty":
                self.removed(base, LOW, 2, places(2), [("clear", "u:-", 2), ("put", "u:-", (1, None, None))])
            else:
                writer = Writer(base, LOW)
                self.refused(writer, base, ("Restricted", "r", 1), writer.take_row, "u", 2)

    def test_empty(self):
        base = base_of(U, W, refers("r", "empty"), refers("s", "empty", "q"), (A, refers("t", "empty", "u", "w")))
        put(base, *rows((5, None, None), (20, 5, 5), (3, 5, 20), (4, 3, 5)), (A, "w:-", ("x", 5, 7)))
        self.removed(base, A, 5, places(5), [
            ("gone", "u:-", 5), ("put", "u:-", (3, None, 20)), ("put", "u:-", (4, 3, None)), ("put", "u:-", (20, None, None)),
            ("put", "w:-", ("x", None, 7))])
        self.assertEqual([row for row, label in kept(base.world(LOW), "u")], [(3, 5, 20), (4, 3, 5), (5, None, None), (20, 5, 5)])

    def test_several_references_over_one_column(self):
        base = put(base_of(U, refers("r", "empty"), refers("s", "empty")), *rows((1, None, None), (2, 1, None)))
        self.removed(base, LOW, 1, places(1), [("clear", "u:-", 1), ("put", "u:-", (2, None, None))])

    def test_rows_of_the_set_are_not_emptied(self):
        base = put(base_of(U, refers("r", "cascade"), refers("s", "empty", "q")), *rows((1, None, None), (2, 1, 1), (3, None, 2)))
        self.removed(base, LOW, 1, places(1, 2), [("clear", "u:-", 1), ("clear", "u:-", 2), ("put", "u:-", (3, None, None))])

    def test_restricted(self):
        base = base_of(U, (A, refers("z", "restrict", "q")), refers("r", "restrict"), refers("c", "cascade", "q"))
        put(base, *rows((1, None, None), (10, 1, None), (9, 1, None), (3, None, 9)), (A, "u:-", (2, None, 4)),
            (A, "u:-", (4, None, None)))
        writer = Writer(base, A)
        # the first reference in catalog order, and of it the first row
        self.refused(writer, base, ("Restricted", "r", 9), writer.take_row, "u", 1)
        other = Writer(base, LOW)
        self.refused(other, base, ("Restricted", "r", 9), other.take_row, "u", 1)
        self.removed(base.clone(), LOW, 9, places(3, 9), [("clear", "u:-", 3), ("clear", "u:-", 9)])
        # what is in the set itself restricts nothing
        self.removed(base.clone(), A, 4, places(2, 4), [("clear", "u:-", 2), ("clear", "u:-", 4)])

    def test_restricted_by_a_row_that_refers_to_another_row_of_the_set(self):
        base = put(base_of(U, refers("b", "restrict", "q"), refers("a", "restrict", "q"), refers("c", "cascade")),
                   *rows((1, None, None), (2, 1, None), (3, None, 2), (4, 2, 1)))
        writer = Writer(base, LOW)
        self.refused(writer, base, ("Restricted", "b", 3), writer.take_row, "u", 1)
        self.removed(base.clone(), LOW, 3, places(3), [("clear", "u:-", 3)])

    def test_the_sequence_of_references_counts_ahead_of_tables_and_keys(self):
        base = base_of(U, W, refers("s", "restrict", "u", "w"), refers("r", "restrict"))
        put(base, *rows((1, None, None), (2, 1, None)), (LOW, "w:-", ("x", 1, None)))
        writer = Writer(base, LOW)
        self.refused(writer, base, ("Restricted", "s", "x"), writer.take_row, "u", 1)

    def test_broken(self):
        base = base_of(U, W, refers("s", "empty", "u", "w"), refers("r", "empty"), (A, Check("z", "u", "(filled p)")),
                       Check("y", "u", "(or (filled p) (less k 9))"), Check("x", "w", "(filled u)"))
        put(base, (A, "u:-", (1, 1, None)), (A, "u:-", (10, 1, None)), (A, "u:-", (9, 1, None)), (A, "u:-", (2, 2, None)),
            (A, "w:-", ("a", 1, None)), (A, "u:-", (3, 2, None)))
        writer = Writer(base, A)
        self.refused(writer, base, ("Broken", "y", 9), writer.take_row, "u", 1)
        self.refused(writer, base, ("Broken", "z", 3), writer.take_row, "u", 2)
        base.drop(A, "check", "z")
        self.refused(writer, base, ("Broken", "y", 9), writer.take_row, "u", 1)
        self.removed(base.clone(), A, 2, places(2), [("clear", "u:-", 2), ("put", "u:-", (3, None, None))])
        base.drop(LOW, "check", "y")
        self.refused(writer, base, ("Broken", "x", "a"), writer.take_row, "u", 1)

    def test_restricted_ahead_of_broken(self):
        base = put(base_of(U, refers("e", "empty"), Check("c", "u", "(or (filled p) (filled q))"), refers("r", "restrict", "q")),
                   *rows((1, 1, None), (2, 1, None), (3, 1, 1)))
        writer = Writer(base, LOW)
        self.refused(writer, base, ("Restricted", "r", 3), writer.take_row, "u", 1)
        writer.change_row("u", 3, {"q": None})
        self.refused(writer, base, ("Broken", "c", 2), writer.take_row, "u", 1)

    def test_empty_checks_of_emptied_rows(self):
        base = put(base_of(U, refers("e", "empty"), Check("c", "u", "(less p 5)")), *rows((1, None, None), (2, 1, None)))
        self.removed(base, LOW, 1, places(1), [("clear", "u:-", 1), ("put", "u:-", (2, None, None))])

    def test_no_row(self):
        base = put(base_of(U, Check("c", "u", "(less p 5)")), *rows((1, None, None), (2, 9, None)), (AB, "u:-", (3, None, None)))
        base.mark_gone(A, "u:-", 1)
        writer = Writer(base, A)
        for key in (1, 2, 3, 4):
            self.refused(writer, base, ("NoRow", key), writer.take_row, "u", key)
        for value in every_kind():
            told = error_of(writer.take_row, "u", value)
            self.assertEqual(told[0], "NoRow")
            self.assertIs(told[1], value)
        base.define(A, View("v", "(select (items (k x.k)) (from (x u)))"))
        self.refused(writer, base, ("UnknownSource", "v"), writer.take_row, "v", 9)


class RevertTest(WriteCase):
    def reverted(self, base, key, text="u"):
        writer = Writer(base, A)
        source = base.world(A).source_id(text)
        self.assertIsNone(self.made(writer, base, [("clear", source, key)], writer.revert_row, text, key))

    def test_rows_and_gone(self):
        base = put(base_of(U), *rows((1, None, None), (2, None, None)), (A, "u:-", (2, 5, None)), (A, "u:-", (3, 5, None)))
        base.mark_gone(A, "u:-", 1)
        base.mark_gone(A, "u:-", 4)
        self.reverted(base, 3)
        self.reverted(base, 1)
        self.reverted(base, 4)
        self.reverted(base, 2, "u:-")
        self.assertEqual(kept(base.world(A), "u"), [((1, None, None), "-"), ((2, None, None), "-")])
        self.assertEqual(base.layer(A, "u:-"), {})

    def test_no_entry(self):
        base = put(base_of(U, (A, View("v", "(select (items (k x.k)) (from (x u)))"))), *rows((1, None, None)),
                   (AB, "u:-", (2, None, None)), (B, "u:-", (3, None, None)))
        writer = Writer(base, A)
        for key in (1, 2, 3, 4):
            self.refused(writer, base, ("NoEntry", key), writer.revert_row, "u", key)
        for value in every_kind():
            told = error_of(writer.revert_row, "u", value)
            self.assertEqual(told[0], "NoEntry")
            self.assertIs(told[1], value)
        self.refused(writer, base, ("UnknownSource", "v"), writer.revert_row, "v", 1)
        self.refused(writer, base, ("UnknownSource", "x"), writer.revert_row, "x", [])
        self.assertIsNone(Writer(base, B).revert_row(table="u", key=3))

    def test_the_reverted_key_itself(self):
        base = put(base_of(U, Check("c", "u", "(less k 5)")), *rows((7, None, None), (1, None, None)))
        base.mark_gone(A, "u:-", 7)
        writer = Writer(base, A)
        self.refused(writer, base, ("WouldSuspend", "u:-", 7), writer.revert_row, "u", 7)
        base = put(base_of(U, refers("r", "restrict")), *rows((1, 2, None)), (A, "u:-", (1, None, None)), (A, "u:-", (3, 1, None)))
        writer = Writer(base, A)
        # ahead of the other rows, which would not stand either
        self.refused(writer, base, ("WouldSuspend", "u:-", 1), writer.revert_row, "u", 1)

    def test_a_suspended_row_of_the_own_layer(self):
        base = put(base_of(U, Check("c", "u", "(less k 5)")), (A, "u:-", (7, None, None)), (A, "u:-", (8, None, None)),
                   (LOW, "u:-", (8, None, None)))
        self.reverted(base, 7)
        writer = Writer(base, A)
        self.refused(writer, base, ("WouldSuspend", "u:-", 8), writer.revert_row, "u", 8)

    def test_other_rows(self):
        base = base_of(W, U, refers("s", "restrict", "u", "w"), refers("r", "cascade"))
        put(base, (A, "u:-", (1, None, None)), (A, "u:-", (10, 1, None)), (LOW, "u:-", (0, None, None)), (A, "u:-", (9, 1, None)))
        writer = Writer(base, A)
        self.refused(writer, base, ("WouldSuspend", "u:-", 9), writer.revert_row, "u", 1)
        put(base, (A, "w:-", ("x", 10, None)))
        # tables in catalog order: the row of w goes in a later round, but stands first
        self.refused(writer, base, ("WouldSuspend", "w:-", "x"), writer.revert_row, "u", 1)
        self.refused(writer, base, ("WouldSuspend", "w:-", "x"), writer.revert_row, "u", 10)
        self.reverted(base, 9)

    def test_other_rows_from_below(self):
        base = put(base_of(U, refers("r", "restrict")), *rows((2, 1, None)), (A, "u:-", (1, None, None)))
        writer = Writer(base, A)
        self.refused(writer, base, ("WouldSuspend", "u:-", 2), writer.revert_row, "u", 1)

    def test_a_row_in_a_ring(self):
        base = put(base_of(U, refers("r", "restrict")), (A, "u:-", (1, 1, None)), (A, "u:-", (2, 3, None)), (A, "u:-", (3, 2, None)))
        self.reverted(base, 1)
        writer = Writer(base, A)
        self.refused(writer, base, ("WouldSuspend", "u:-", 3), writer.revert_row, "u", 2)

    def test_a_row_that_stays_with_another_key_below(self):
        base = put(base_of(U, refers("r", "restrict")), *rows((1, None, 7), (2, 1, None)), (A, "u:-", (1, None, 8)))
        self.reverted(base, 1)
        self.assertEqual(kept(base.world(A), "u"), [((1, None, 7), "-"), ((2, 1, None), "-")])


RULES = ("restrict", "cascade", "empty")


def random_base(chance):
    base = base_of(table("u", "k:int", "p:int?", "q:int?"), (A, table("s", "k:int", "p:int?")))
    pool = [
        (LOW, Reference("a", "u", "p", "u", rule=chance.choice(RULES))), (A, Reference("b", "u", "q", "s", rule=chance.choice(RULES))),
        (A, Reference("c", "s", "p", "u", rule=chance.choice(RULES))), (A, Reference("d", "u", "q", "u", rule=chance.choice(RULES))),
        (LOW, Check("e", "u", "(less p 3)")), (A, Check("f", "s", "(or (filled p) (less k 2))")),
        (AB, Check("g", "u", "(filled q)")), (B, Check("h", "u", "(filled q)")),
    ]
    for label, entry in chance.sample(pool, chance.randint(2, 8)):
        base.define(label, entry)
    for _ in range(chance.randint(3, 12)):
        source, labels, size = chance.choice([("u:-", (LOW, A, B, AB), 3), ("s:a", (A, AB), 2)])
        label = chance.choice(labels)
        if chance.random() < 0.1:
            base.mark_gone(label, source, chance.randint(0, 4))
        else:
            base.put_row(label, source, tuple([chance.randint(0, 4)] + random_values(chance, size - 1)))
    return base


def random_values(chance, size):
    return [chance.choice([0, 1, 2, 3, None]) for _ in range(size)]


def random_write(chance, writer):
    """A method of a writer and its arguments."""
    source, size = chance.choice([("u", 3), ("s", 2)])
    key = chance.randint(0, 4)
    way = chance.choice(["add", "change", "take", "take", "revert"])
    if way == "add":
        return writer.add_row, source, [key] + random_values(chance, size - 1)
    if way == "change":
        return writer.change_row, source, key, {"p": chance.choice([0, 1, 2, 3, None])}
    return (writer.take_row if way == "take" else writer.revert_row), source, key


def standing(world):
    return {(source, key): (row, str(label)) for source in world.tables() for key, row, label in world.rows(source)}


class RandomTest(WriteCase):
    def test_writes_of_every_kind(self):
        accepted = {"add_row": 0, "change_row": 0, "take_row": 0, "revert_row": 0}
        refusals = {}
        for seed in range(300):
            chance = random.Random(seed)
            base = random_base(chance)
            writer = Writer(base, A)
            for _ in range(6):
                call, source, *given = random_write(chance, writer)
                before, copied = base.clone(), base.world(A)
                many = len(writer.changes())
                error = error_of(call, source, *given)
                name = call.__name__
                if error is not None:
                    refusals[(name, error[0])] = refusals.get((name, error[0]), 0) + 1
                    self.assertEqual((base, len(writer.changes())), (before, many))
                    self.refusal_is_needed(before, name, source, given, error)
                    continue
                accepted[name] += 1
                self.keeps_all(before, base, copied, name, source, given, writer.changes()[many:])
        self.assertGreater(min(accepted.values()), 20)
        self.assertGreater(len(refusals), 9)

    def keeps_all(self, before, base, world, name, source, given, changes):
        for other in (LOW, B):
            self.assertEqual(base.world(other), before.world(other))
        before.apply(A, changes)
        self.assertEqual(before, base)
        was, now = standing(world), standing(base.world(A))
        lost = [place for place in was if place not in now]
        source = world.source_id(source)
        if name == "take_row":
            self.assertEqual(sorted(lost), sorted(self.cascade(world, (source, given[0]))))
        elif name == "revert_row":
            self.assertTrue(lost in ([], [(source, given[0])]))
        else:
            self.assertEqual(lost, [])

    def links(self, world, rules):
        """(row, row to which it refers) by references with these rules."""
        found = []
        for told in world.entries("reference"):
            _, name, table, column, target, rule = world.entry(*told).told()
            if rule in rules:
                at = [entry[0] for entry in world.columns(table)].index(column)
                found += [((table, key), (target, row[at])) for key, row, _ in world.rows(table) if row[at] is not None]
        return found

    def cascade(self, world, place):
        found = {place}
        while True:
            more = found | {place for place, target in self.links(world, ["cascade"]) if target in found}
            if more == found:
                return found
            found = more

    def refusal_is_needed(self, before, name, source, given, error):
        """A row that is put, or taken away, in spite of the refusal does not stand, or lets others be suspended."""
        world = before.world(A)
        source, word = world.source_id(source), error[0]
        if word == "Missing":
            # the row might stand in a ring with the one that is missing, which is refused all the same
            target = world.entry("reference", error[1], LOW if error[1] == "a" else A).target
            self.assertNotIn((target, error[2]), standing(world))
        elif word == "Broken" and name in ("add_row", "change_row"):
            row = given[0] if name == "add_row" else None
            if row is None:
                old = world.standing_row(source, given[0])
                row = [given[1]["p"] if column[0] == "p" else value for column, value in zip(world.columns(source), old)]
            before.put_row(A, source, tuple(row))
            self.assertIsNone(before.world(A).standing_row(source, row[0]))
        elif word == "Restricted":
            removed = self.cascade(world, (source, given[0]))
            self.assertTrue([place for place, target in self.links(world, ["restrict"])
                             if target in removed and place not in removed and place[1] == error[2]])
        elif word == "WouldSuspend":
            was = standing(world)
            before.drop_entry(A, source, given[0])
            behind = before.world(A)
            lost = [place for place in was if place not in standing(behind)]
            self.assertTrue(tuple(error[1:]) in lost + [(told[0], told[1]) for told in behind.suspended()])
        elif word == "NoRow":
            self.assertFalse(is_key(error[1]) and (source, error[1]) in standing(world))
        elif word in ("Taken", "Waiting"):
            self.assertEqual((source, error[1]) in standing(world), word == "Taken")


class LostRulesTest(unittest.TestCase):
    def test_references_that_do_not_stand(self):
        base = put(base_of(U, W, (A, refers("s", "restrict", "u", "w"))), *rows((1, None, None)), (LOW, "w:-", ("x", 1, None)))
        writer = Writer(base, A)
        self.assertEqual(error_of(writer.take_row, "u", 1), ("Restricted", "s", "x"))
        base.drop(LOW, "table", "w")
        base.apply(LOW, [("define", table("w", "k:text", "u:text?", "v:int?").told()), ("put", "w:-", ("x", "1", None))])
        self.assertEqual(base.world(A).suspended_entries(), [("reference", "s", A, ("sort",))])
        self.assertEqual(writer.take_row("u", 1), places(1))

    def test_an_empty_database(self):
        self.assertEqual(error_of(Writer(Base("a"), A).take_row, "u", 1), ("UnknownSource", "u"))


if __name__ == "__main__":
    unittest.main()
