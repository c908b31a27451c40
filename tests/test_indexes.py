"""[23]: index trees."""

import random
import unittest

from aboveless.indexes import IndexTree
from aboveless.labels import Label
from aboveless.values import is_key, sort_of
from tests.helpers import Odd, error_of, every_kind, exact
from tests.samples import A, AB, B, LOW

VALUES = (True, False, 1, 0, "1", "true", "", -5, 10 ** 29, "b", "B")


def tree_of(*entries):
    tree = IndexTree()
    for entry in entries:
        tree.put_entry(*entry)
    return tree


class IndexTreeTest(unittest.TestCase):
    def test_entries_at(self):
        tree = tree_of((A, 5, "x"), (LOW, 5, "x"), (AB, 5, "a"), (B, 5, 7), (LOW, 5, 10), (LOW, 5, -3), (A, 5, 9), (LOW, 6, 1))
        self.assertEqual(tree.entries_at(LOW, 5), [(-3, LOW), (10, LOW), ("x", LOW)])
        self.assertEqual(tree.entries_at(A, 5), [(-3, LOW), (9, A), (10, LOW), ("x", LOW), ("x", A)])
        self.assertEqual(tree.entries_at(B, 5), [(-3, LOW), (7, B), (10, LOW), ("x", LOW)])
        self.assertEqual(tree.entries_at(AB, 5),
                         [(-3, LOW), (7, B), (9, A), (10, LOW), ("a", AB), ("x", LOW), ("x", A)])
        self.assertEqual(tree.entries_at(label=AB, value=6), [(1, LOW)])
        self.assertEqual(tree.entries_at(AB, 7), [])
        self.assertEqual(len(tree), 8)

    def test_labels_in_their_order(self):
        labels = [AB, B, Label("a", "b", "c"), LOW, Label("c"), A, Label("b", "c")]
        tree = tree_of(*[(label, "v", "k") for label in labels])
        expected = [LOW, A, B, Label("c"), AB, Label("b", "c"), Label("a", "b", "c")]
        self.assertEqual(tree.entries_at(Label("a", "b", "c", "d"), "v"), [("k", label) for label in expected])

    def test_values_of_each_sort(self):
        tree = tree_of(*[(A, value, at) for at, value in enumerate(VALUES)])
        for at, value in enumerate(VALUES):
            self.assertEqual(tree.entries_at(A, value), [(at, A)])
            self.assertEqual(tree.steps(A, value), 2)
        expected = [False, True, -5, 0, 1, 10 ** 29, "", "1", "B", "b", "true"]
        self.assertEqual(exact(tree.different(A)), exact(expected))
        self.assertEqual(len(tree), len(VALUES))

    def test_keys_of_both_sorts(self):
        tree = tree_of((A, 1, 1), (A, 1, "1"), (A, 1, 0))
        self.assertEqual(exact([key for key, label in tree.entries_at(A, 1)]), exact([0, 1, "1"]))

    def test_entries_that_are_put_twice(self):
        tree = tree_of((A, 1, "x"), (A, 1, "x"), (A, 1, "x"))
        self.assertEqual((len(tree), tree.entries_at(A, 1), tree.steps(A, 1)), (1, [("x", A)], 2))
        self.assertIsNone(tree.put_entry(A, 1, "x"))
        self.assertIsNone(tree.take_entry(A, 1, "x"))
        self.assertEqual((len(tree), tree.entries_at(A, 1), tree.different(A)), (0, [], []))
        tree.put_entry(label=A, value=1, key="x")
        self.assertEqual(len(tree), 1)
        tree.take_entry(label=A, value=1, key="x")
        self.assertEqual(len(tree), 0)

    def test_entries_that_are_not_there(self):
        tree = tree_of((A, 1, 7), (LOW, True, "x"))
        for entry in ((A, 1, 8), (A, True, 7), (A, "1", 7), (A, 1, "7"), (LOW, 1, 7), (AB, 1, 7), (A, 2, 7), (B, 5, "y"),
                      (LOW, 1, "x")):
            self.assertEqual(exact(error_of(tree.take_entry, *entry)), exact(("NoEntry", entry[2])))
        self.assertEqual((len(tree), tree.different(A)), (2, [True, 1]))
        tree.take_entry(A, 1, 7)
        self.assertEqual(error_of(tree.take_entry, A, 1, 7), ("NoEntry", 7))
        self.assertEqual(exact(tree.different(A)), exact([True]))

    def test_steps(self):
        tree = tree_of((LOW, 5, 1), (A, 5, 1), (A, 5, 2), (B, 5, 3), (A, 6, 4))
        self.assertEqual([tree.steps(label, 5) for label in (LOW, A, B, AB)], [2, 4, 3, 5])
        self.assertEqual(tree.steps(label=LOW, value=6), 1)
        self.assertEqual(IndexTree().steps(A, "x"), 1)

    def test_different(self):
        tree = tree_of((LOW, 5, 1), (A, 5, 1), (A, "x", 1), (B, 4, 2), (AB, True, 1), (B, "x", 1))
        self.assertEqual(exact([tree.different(label) for label in (LOW, A, B)]), exact([[5], [5, "x"], [4, 5, "x"]]))
        self.assertEqual(exact(tree.different(label=AB)), exact([True, 4, 5, "x"]))
        self.assertEqual(IndexTree().different(A), [])

    def test_what_is_not_below_makes_no_difference(self):
        chance = random.Random(1)
        plain, full = IndexTree(), IndexTree()
        for _ in range(200):
            label, value, key = chance.choice([LOW, A, B, AB]), chance.choice(VALUES), chance.choice([0, 1, "1", "x"])
            full.put_entry(label, value, key)
            if label.is_below(A):
                plain.put_entry(label, value, key)
        for value in VALUES:
            for label in (LOW, A):
                self.assertEqual(plain.entries_at(label, value), full.entries_at(label, value))
                self.assertEqual(plain.steps(label, value), full.steps(label, value))
        self.assertEqual(exact(plain.different(A)), exact(full.different(A)))
        self.assertGreater(len(full), len(plain))

    def test_invalid_labels(self):
        tree = tree_of((A, 1, 1))
        for value in every_kind():
            if not isinstance(value, Label):
                for call in (lambda: tree.put_entry(value, None, None), lambda: tree.take_entry(value, None, None),
                             lambda: tree.entries_at(value, None), lambda: tree.steps(value, None),
                             lambda: tree.different(value)):
                    told = error_of(call)
                    self.assertEqual(told[0], "InvalidLabel")
                    self.assertIs(told[1], value)
        self.assertEqual(len(tree), 1)

    def test_invalid_values_and_keys(self):
        tree = tree_of((A, 1, 1))
        for value in every_kind():
            if isinstance(value, Odd) or sort_of(value) is None:
                for call in (lambda: tree.put_entry(A, value, None), lambda: tree.take_entry(A, value, None),
                             lambda: tree.entries_at(A, value), lambda: tree.steps(A, value)):
                    told = error_of(call)
                    self.assertEqual(told[0], "InvalidKey")
                    self.assertIs(told[1], value)
            if not is_key(value):
                for call in (tree.put_entry, tree.take_entry):
                    told = error_of(call, A, 1, value)
                    self.assertEqual(told[0], "InvalidKey")
                    self.assertIs(told[1], value)
        self.assertEqual((len(tree), tree.entries_at(A, 1)), (1, [(1, A)]))

    def test_what_is_returned_is_new(self):
        tree = tree_of((A, 1, 1))
        tree.entries_at(A, 1).clear()
        tree.different(A).clear()
        self.assertEqual((tree.entries_at(A, 1), tree.different(A)), ([(1, A)], [1]))

    def test_trees_are_independent(self):
        first, second = IndexTree(), IndexTree()
        first.put_entry(A, 1, 1)
        self.assertEqual((len(first), len(second)), (1, 0))
        self.assertFalse(first == 5)


if __name__ == "__main__":
    unittest.main()
