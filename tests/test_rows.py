"""[14], [15], [16]: which rows stand in a world, and why the others are suspended."""

import itertools
import random
import unittest

from aboveless.base import Base
from aboveless.entries import Check, Index, Reference
from aboveless.expressions import Expression
from aboveless.labels import Label
from tests.samples import A, AB, B, LOW, base_of, kept, lost, put, table

T = table("t", "k:text", "n:int?", "b:truth?", "m:int")
U = table("u", "k:int", "p:int?", "q:int?")


def chain(count, *entries):
    """Rows 0 to count - 1 of u, each of which refers to the next one by p."""
    base = base_of(U, *entries)
    return put(base, *[(LOW, "u:-", (at, at + 1, None)) for at in range(count)])


class FitTest(unittest.TestCase):
    def judged(self, row):
        """Whether a row stands; its reason is that it does not fit, otherwise."""
        base = put(base_of(T), (LOW, "t:-", row))
        world = base.world(LOW)
        if world.suspended():
            self.assertEqual(lost(world), [("t:-", row[0], "-", 1, ("row",))])
            self.assertEqual((len(world), kept(world, "t")), (0, []))
            return False
        self.assertEqual(kept(world, "t"), [(row, "-")])
        return True

    def test_rows_that_fit(self):
        for row in (("x", 1, True, 2), ("x", None, None, 2), ("", -1, False, 0), ("x" * 60, 10 ** 30 - 1, None, 1)):
            self.assertTrue(self.judged(row))

    def test_too_few_and_too_many_values(self):
        for row in (("x",), ("x", 1), ("x", 1, True), ("x", 1, True, 2, 3), ("x", 1, True, 2, None)):
            self.assertFalse(self.judged(row))

    def test_wrong_sorts(self):
        for row in ((1, 1, True, 2), ("x", "1", True, 2), ("x", True, True, 2), ("x", 1, 1, 2), ("x", 1, 0, 2),
                    ("x", 1, "true", 2), ("x", 1, True, False), ("x", 1, True, "2")):
            self.assertFalse(self.judged(row))

    def test_empty_where_it_may_not_be(self):
        self.assertFalse(self.judged(("x", 1, True, None)))

    def test_keys(self):
        base = put(base_of(U), (LOW, "u:-", ("x", None, None)), (LOW, "u:-", (1, None, None)))
        self.assertEqual(lost(base.world(LOW)), [("u:-", "x", "-", 1, ("row",))])

    def test_a_row_that_does_not_fit_is_not_judged_further(self):
        base = put(base_of(T, U, Check("c", "t", "(less n 5)"), Check("d", "t", "b"), Reference("r", "t", "m", "u")),
                   (LOW, "t:-", ("x", "9", False, 1)), (LOW, "t:-", ("y",)))
        self.assertEqual([told[4] for told in lost(base.world(LOW))], [("row",), ("row",)])


class TableTest(unittest.TestCase):
    def test_rows_of_tables_that_do_not_stand(self):
        base = put(Base("a", "b"), (LOW, "t:-", ("x", 1)), (A, "t:-", (3,)), (A, "t:a", (2,)), (B, "u:b", ("z",)))
        base.mark_gone(A, "t:-", "y")
        self.assertEqual(lost(base.world(LOW)), [("t:-", "x", "-", 1, ("table",))])
        self.assertEqual(lost(base.world(AB)), [
            ("t:-", 3, "a", 1, ("table",)), ("t:-", "x", "-", 1, ("table",)), ("t:a", 2, "a", 1, ("table",)),
            ("u:b", "z", "b", 1, ("table",)),
        ])

    def test_a_view_with_the_id_is_no_table(self):
        base = put(base_of(U, T), (LOW, "t:-", ("x", 1, None, 1)), (A, "t:-", ("y", 1, None, 1)))
        base.drop(LOW, "table", "t")
        base.apply(LOW, [("define", ("view", "t", "(select (items (k x.k)) (from (x u:-)))"))])
        self.assertEqual(lost(base.world(A)), [("t:-", "y", "a", 1, ("table",))])

    def test_ids_sorted_as_strings(self):
        base = Base("a", "b")
        for label, source in ((LOW, "u:-"), (A, "t:a"), (LOW, "t:-"), (A, "a:a"), (AB, "t:a+b"), (B, "t:b"), (A, "ta:-")):
            base.put_row(label, source, (1,))
        told = [source for source, key, label, number, reason in base.world(AB).suspended()]
        self.assertEqual(told, ["a:a", "t:-", "t:a", "t:a+b", "t:b", "ta:-", "u:-"])


class CheckTest(unittest.TestCase):
    def test_false_true_and_empty(self):
        base = put(base_of(U, Check("c", "u", "(less p 5)")), (LOW, "u:-", (1, 4, None)), (LOW, "u:-", (2, 5, None)),
                   (LOW, "u:-", (3, None, None)))
        world = base.world(LOW)
        self.assertEqual(lost(world), [("u:-", 2, "-", 1, ("check", "c", "-"))])
        self.assertEqual(kept(world, "u"), [((1, 4, None), "-"), ((3, None, None), "-")])

    def test_the_first_check_in_catalog_order(self):
        base = base_of(U, (A, Check("a", "u", "false")), Check("d", "u", "(less p 5)"), Check("c", "u", "(less p 4)"))
        put(base, (B, "u:-", (1, 5, None)), (B, "u:-", (2, 4, None)), (B, "u:-", (3, 1, None)))
        self.assertEqual(lost(base.world(AB)), [
            ("u:-", 1, "b", 1, ("check", "d", "-")), ("u:-", 2, "b", 1, ("check", "c", "-")),
            ("u:-", 3, "b", 1, ("check", "a", "a")),
        ])
        self.assertEqual([told[1] for told in lost(base.world(B))], [1, 2])

    def test_checks_of_other_tables(self):
        base = put(base_of(U, T, Check("c", "t", "false")), (LOW, "u:-", (1, 5, None)))
        self.assertEqual(lost(base.world(LOW)), [])


class ReferenceTest(unittest.TestCase):
    def test_keys_that_are_there_or_not(self):
        for rule in ("restrict", "cascade", "empty"):
            base = base_of(U, T, Reference("r", "t", "n", "u", rule=rule))
            put(base, (LOW, "u:-", (1, None, None)), (LOW, "t:-", ("x", 1, None, 0)), (LOW, "t:-", ("y", 2, None, 0)),
                (LOW, "t:-", ("z", None, None, 0)))
            self.assertEqual(lost(base.world(LOW)), [("t:-", "y", "-", 1, ("reference", "r", "-", 2))])
            self.assertEqual([row[0] for row, label in kept(base.world(LOW), "t")], ["x", "z"])

    def test_chains(self):
        base = chain(4, Reference("r", "u", "p", "u"))
        self.assertEqual(lost(base.world(LOW)), [
            ("u:-", 0, "-", 4, ("reference", "r", "-", 1)), ("u:-", 1, "-", 3, ("reference", "r", "-", 2)),
            ("u:-", 2, "-", 2, ("reference", "r", "-", 3)), ("u:-", 3, "-", 1, ("reference", "r", "-", 4)),
        ])
        base.put_row(A, "u:-", (4, None, None))
        self.assertEqual(lost(base.world(A)), [])
        self.assertEqual(len(base.world(A)), 5)

    def test_a_long_chain(self):
        base = chain(60, Reference("r", "u", "p", "u"))
        self.assertEqual([told[3] for told in lost(base.world(LOW))], list(range(60, 0, -1)))

    def test_rings_and_rows_that_refer_to_themselves(self):
        base = put(base_of(U, Reference("r", "u", "p", "u")), (LOW, "u:-", (1, 2, None)), (LOW, "u:-", (2, 3, None)),
                   (LOW, "u:-", (3, 1, None)), (LOW, "u:-", (4, 4, None)), (LOW, "u:-", (5, 1, None)))
        self.assertEqual(len(base.world(LOW)), 5)
        base.define(A, Check("c", "u", "(not (same k 2))"))
        self.assertEqual(lost(base.world(A)), [
            ("u:-", 1, "-", 2, ("reference", "r", "-", 2)), ("u:-", 2, "-", 1, ("check", "c", "a")),
            ("u:-", 3, "-", 3, ("reference", "r", "-", 1)), ("u:-", 5, "-", 3, ("reference", "r", "-", 1)),
        ])

    def test_keys_that_are_suspended(self):
        base = base_of(U, T, Reference("r", "t", "n", "u"))
        put(base, (LOW, "u:-", (1, None)), (LOW, "t:-", ("x", 1, None, 0)))
        self.assertEqual(lost(base.world(LOW)), [
            ("t:-", "x", "-", 2, ("reference", "r", "-", 1)), ("u:-", 1, "-", 1, ("row",)),
        ])

    def test_a_target_without_rows(self):
        base = put(base_of(U, T, Reference("r", "t", "n", "u")), (LOW, "t:-", ("x", 1, None, 0)))
        self.assertEqual(lost(base.world(LOW)), [("t:-", "x", "-", 1, ("reference", "r", "-", 1))])

    def test_several_references_of_one_row(self):
        base = base_of(U, (A, Reference("a", "u", "p", "u")), Reference("z", "u", "q", "u"), Reference("y", "u", "p", "u"))
        put(base, (LOW, "u:-", (1, 2, 3)), (LOW, "u:-", (2, 9, None)), (LOW, "u:-", (3, 3, 3)), (LOW, "u:-", (4, 9, 8)),
            (LOW, "u:-", (5, 2, 1)), (LOW, "u:-", (6, 1, 2)), (LOW, "u:-", (7, 1, 5)))
        expected = [
            ("u:-", 1, "-", 2, ("reference", "y", "-", 2)), ("u:-", 2, "-", 1, ("reference", "y", "-", 9)),
            ("u:-", 4, "-", 1, ("reference", "z", "-", 8)), ("u:-", 5, "-", 2, ("reference", "y", "-", 2)),
            ("u:-", 6, "-", 2, ("reference", "z", "-", 2)), ("u:-", 7, "-", 3, ("reference", "z", "-", 5)),
        ]
        self.assertEqual(lost(base.world(LOW)), expected)
        self.assertEqual(lost(base.world(A)), expected)

    def test_a_reference_at_a_label_above(self):
        base = put(base_of(U), (LOW, "u:-", (1, 5, None)))
        base.define(A, Reference("r", "u", "p", "u"))
        self.assertEqual(lost(base.world(A)), [("u:-", 1, "-", 1, ("reference", "r", "a", 5))])
        self.assertEqual(lost(base.world(LOW)), [])

    def test_the_reason_of_the_earliest_round_counts(self):
        # the first reference is to a row that goes in round 2, the second one to a row of round 1
        base = base_of(U, Reference("r", "u", "p", "u"), Reference("s", "u", "q", "u"))
        put(base, (LOW, "u:-", (1, 2, 3)), (LOW, "u:-", (2, 3, None)), (LOW, "u:-", (3, 9, None)))
        self.assertEqual(lost(base.world(LOW)), [
            ("u:-", 1, "-", 2, ("reference", "s", "-", 3)), ("u:-", 2, "-", 2, ("reference", "r", "-", 3)),
            ("u:-", 3, "-", 1, ("reference", "r", "-", 9)),
        ])

    def test_reasons_that_meet_in_round_one(self):
        base = base_of(U, Reference("r", "u", "p", "u"), Check("c", "u", "(less k 5)"), (A, Check("a", "u", "(less q 2)")))
        put(base, (B, "u:-", (6, 9, 3)), (B, "u:-", (7, "x", 3)), (B, "u:-", (1, 9, 3)), (B, "u:-", (2, 9, None)))
        self.assertEqual([told[4] for told in lost(base.world(AB))], [
            ("check", "a", "a"), ("reference", "r", "-", 9), ("check", "c", "-"), ("row",)
        ])

    def test_text_keys(self):
        base = base_of(table("s", "k:text", "o:text?"), Reference("r", "s", "o", "s"))
        put(base, (LOW, "s:-", ("1", "x")), (LOW, "s:-", (1, "x")), (LOW, "s:-", ("x", "1")), (LOW, "s:-", ("y", "2")))
        self.assertEqual(lost(base.world(LOW)), [
            ("s:-", 1, "-", 1, ("row",)), ("s:-", "y", "-", 1, ("reference", "r", "-", "2")),
        ])

    def test_suspended_references_do_not_judge(self):
        base = put(base_of(U, T, (A, Reference("r", "t", "n", "u"))), (LOW, "t:-", ("x", 1, None, 0)))
        self.assertEqual(len(base.world(A)), 0)
        base.drop(LOW, "table", "u")
        self.assertEqual(len(base.world(A)), 1)


class LayersTest(unittest.TestCase):
    def test_rows_that_are_covered_gone_and_shown_again(self):
        base = put(base_of(U, Reference("r", "u", "p", "u")), (LOW, "u:-", (1, None, None)), (LOW, "u:-", (2, 1, None)))
        base.put_row(A, "u:-", (1, 9, None))
        self.assertEqual(lost(base.world(A)), [
            ("u:-", 1, "a", 1, ("reference", "r", "-", 9)), ("u:-", 2, "-", 2, ("reference", "r", "-", 1)),
        ])
        self.assertEqual(len(base.world(LOW)), 2)
        base.mark_gone(A, "u:-", 1)
        self.assertEqual(lost(base.world(A)), [("u:-", 2, "-", 1, ("reference", "r", "-", 1))])
        base.put_row(AB, "u:-", (1, None, 7))
        self.assertEqual(kept(base.world(AB), "u"), [((1, None, 7), "a+b"), ((2, 1, None), "-")])
        base.drop_entry(A, "u:-", 1)
        self.assertEqual(kept(base.world(A), "u"), [((1, None, None), "-"), ((2, 1, None), "-")])

    def test_labels_that_are_not_below_make_no_difference(self):
        base = put(base_of(U, Reference("r", "u", "p", "u")), (LOW, "u:-", (1, 2, None)), (A, "u:-", (3, None, None)))
        world = base.world(A)
        base.define(B, Check("c", "u", "false"))
        put(base, (B, "u:-", (2, None, None)), (B, "u:-", (3, 3, 3)), (AB, "u:-", (4, None, None)), (B, "x:b", (1,)))
        base.mark_gone(B, "u:-", 3)
        self.assertEqual(base.world(A), world)
        self.assertEqual(base.world(A).suspended(), world.suspended())


def random_base(seed):
    """A small database with rows that are mostly wrong somewhere."""
    chance = random.Random(seed)
    base = base_of(table("u", "k:int", "p:int?", "q:int?"), (A, table("s", "k:int", "p:int?")))
    pool = [
        (LOW, Reference("a", "u", "p", "u", rule="cascade")), (A, Reference("b", "u", "q", "s", rule="empty")),
        (A, Reference("c", "s", "p", "u")), (AB, Reference("d", "u", "q", "u")), (LOW, Check("e", "u", "(less p 3)")),
        (A, Check("f", "s", "(not (same p k))")), (AB, Check("g", "u", "(or (filled q) (less k 3))")),
        (A, Reference("h", "s", "k", "u")), (AB, Check("i", "s:a", "(less k 3)")), (A, Index("j", "s", "p")),
    ]
    for label, entry in chance.sample(pool, chance.randint(0, 6)):
        base.define(label, entry)
    for _ in range(chance.randint(1, 9)):
        source, labels, size = chance.choice([("u:-", (LOW, A, B, AB), 3), ("s:a", (A, AB), 2)])
        label = chance.choice(labels)
        if chance.random() < 0.1:
            base.mark_gone(label, source, chance.randint(0, 4))
        else:
            row = [chance.choice([0, 1, 2, 3, None]) for _ in range(size - 1)]
            base.put_row(label, source, tuple([chance.randint(0, 4)] + row[:size - chance.choice([1, 1, 1, 1, 2])]))
    return base


def overlays_of(base, label):
    """The rows for a label by another way than the program's."""
    labels = sorted([Label(*marks) for size in range(5) for marks in itertools.combinations(label.marks, size)],
                    key=lambda lower: (len(lower), lower.marks))
    found = {}
    for source in ("u:-", "s:a"):
        for lower in labels:
            if Label.of_text(source.split(":")[1]).is_below(lower):
                for key, entry in base.layer(lower, source).items():
                    found[(source, key)] = (entry, lower)
    return {place: (entry, lower) for place, (entry, lower) in found.items() if entry != "gone"}


class Model:
    """A search for the largest consistent set, and the rounds by their words."""

    def __init__(self, base, label):
        self.rows = overlays_of(base, label)
        world = base.world(label)
        tables = {f"{name}:{lower}": world.entry("table", name, lower).told()[2] for _, name, lower in world.entries("table")}
        self.tables = tables
        self.checks = [(world.entry(*told), str(told[2])) for told in world.entries("check")]
        self.references = [(world.entry(*told), str(told[2])) for told in world.entries("reference")]

    def values(self, place):
        names = [column[0] for column in self.tables[place[0]]]
        return dict(zip(names, self.rows[place][0]))

    def own_reason(self, place):
        if place[0] not in self.tables:
            return ("table",)
        columns, row = self.tables[place[0]], self.rows[place][0]
        good = len(columns) == len(row) and all(
            value is not None or empty for (_, _, empty), value in zip(columns, row))
        if not good:
            return ("row",)
        for check, label in self.checks:
            if check.table == place[0]:
                if Expression(check.told()[3]).value_in(self.values(place)) is False:
                    return ("check", check.name, label)
        return None

    def links(self, place):
        """(place, reason) of all references of a row."""
        return [
            ((reference.target, key), ("reference", reference.name, label, key))
            for reference, label in self.references if reference.table == place[0]
            for key in [self.values(place)[reference.column]] if key is not None
        ]

    def is_consistent(self, chosen):
        return all(
            self.own_reason(place) is None and all(target in chosen for target, _ in self.links(place)) for place in chosen)

    def largest(self):
        places = sorted(self.rows)
        for size in range(len(places), -1, -1):
            good = [chosen for chosen in itertools.combinations(places, size) if self.is_consistent(chosen)]
            if good:
                assert len(good) == 1
                return good[0]

    def suspended(self):
        found, number = {}, 1
        while True:
            latest = {}
            for place in self.rows:
                if place in found:
                    continue
                reason = self.own_reason(place)
                if number == 1 and reason is None:
                    reason = next((why for target, why in self.links(place) if target not in self.rows), None)
                if number > 1:
                    reason = next((why for target, why in self.links(place) if found.get(target, (0,))[0] == number - 1), None)
                if reason is not None:
                    latest[place] = (number, reason)
            if not latest:
                return [
                    place + (str(self.rows[place][1]),) + found[place] for place in sorted(found)
                ]
            found.update(latest)
            number += 1


class ModelTest(unittest.TestCase):
    def test_small_databases(self):
        for seed in range(400):
            base = random_base(seed)
            for label in (LOW, A, B, AB):
                world, model = base.world(label), Model(base, label)
                stands = [(source, key) for source in world.tables() for key, row, lower in world.rows(source)]
                self.assertEqual(tuple(sorted(stands)), model.largest(), (seed, str(label)))
                self.assertEqual(lost(world), model.suspended(), (seed, str(label)))
                for source in world.tables():
                    for key, row, lower in world.rows(source):
                        self.assertEqual((row, lower), model.rows[(source, key)])


if __name__ == "__main__":
    unittest.main()
