import itertools
import unittest

from aboveless.labels import Label, in_order
from aboveless.layers import Layers
from tests.helpers import Odd, end_of, error_of, every_kind, exact

NONE, A, B, AB, C = Label(), Label("a"), Label("b"), Label("a", "b"), Label("c")


def is_plain_key(value):
    if type(value) is int:
        return -(10 ** 30) < value < 10 ** 30
    return type(value) is str and len(value) < 61 and value.find("'") < 0


def filled():
    layers = Layers()
    layers.put_row(NONE, (1, "low"))
    layers.put_row(NONE, ("1", None))
    layers.put_row(NONE, (2, True))
    layers.put_row(A, (2, 1))
    layers.mark_gone(B, 1)
    layers.put_row(AB, (1, "high"))
    layers.mark_gone(AB, "x")
    return layers


def shown(layers, label):
    return [(key, row, str(lower)) for key, row, lower in layers.overlay(label)]


class EntriesTest(unittest.TestCase):
    def test_gone(self):
        self.assertEqual(Layers.GONE, "gone")
        self.assertEqual(Layers().GONE, "gone")

    def test_put_and_entry(self):
        layers = Layers()
        self.assertIsNone(layers.entry(A, 1))
        self.assertIsNone(layers.put_row(A, (1, "a", None, True)))
        self.assertEqual(exact(layers.entry(A, 1)), exact((1, "a", None, True)))
        self.assertIsNone(layers.entry(NONE, 1))
        self.assertIsNone(layers.entry(AB, 1))
        self.assertIsNone(layers.entry(A, "1"))
        self.assertIsNone(layers.entry(A, True))
        self.assertIsNone(layers.put_row(label=A, row=(1,)))
        self.assertEqual(layers.entry(label=A, key=1), (1,))
        self.assertEqual(len(layers), 1)

    def test_gone_replaces_and_is_replaced(self):
        layers = Layers()
        layers.put_row(A, ("k", 1))
        self.assertIsNone(layers.mark_gone(A, "k"))
        self.assertEqual(layers.entry(A, "k"), "gone")
        self.assertIsNone(layers.mark_gone(label=A, key="k"))
        self.assertEqual(len(layers), 1)
        layers.put_row(A, ("k", 2))
        self.assertEqual(layers.entry(A, "k"), ("k", 2))

    def test_row_whose_key_is_gone(self):
        layers = Layers()
        layers.put_row(A, ("gone",))
        self.assertEqual(shown(layers, A), [("gone", ("gone",), "a")])
        other = Layers()
        other.mark_gone(A, "gone")
        self.assertNotEqual(layers, other)
        self.assertEqual(shown(other, A), [])

    def test_drop(self):
        layers = filled()
        self.assertIsNone(layers.drop_entry(AB, 1))
        self.assertIsNone(layers.entry(AB, 1))
        self.assertEqual(error_of(layers.drop_entry, AB, 1), ("NoEntry", 1))
        self.assertIsNone(layers.drop_entry(label=B, key=1))
        self.assertEqual(layers.entry(NONE, 1), (1, "low"))
        self.assertEqual(len(layers), 5)

    def test_integers_and_strings_are_different_keys(self):
        layers = Layers()
        layers.put_row(A, (1, "int"))
        layers.put_row(A, ("1", "text"))
        self.assertEqual(layers.layer(A), {1: (1, "int"), "1": ("1", "text")})
        layers.drop_entry(A, 1)
        self.assertEqual(layers.layer(A), {"1": ("1", "text")})

    def test_len(self):
        layers = filled()
        self.assertEqual(len(layers), 7)
        self.assertEqual(len(Layers()), 0)
        layers.drop_entry(NONE, 2)
        self.assertEqual(len(layers), 6)


class LayerTest(unittest.TestCase):
    def test_layer_in_order(self):
        layers = Layers()
        for key in ("b", 5, "", -3, "a", 0, "B"):
            layers.put_row(A, (key, 1))
        layers.mark_gone(A, -(10 ** 29))
        layers.put_row(B, (9,))
        self.assertEqual(list(layers.layer(A)), [-(10 ** 29), -3, 0, 5, "", "B", "a", "b"])
        self.assertEqual(layers.layer(A)[-(10 ** 29)], "gone")
        self.assertEqual(layers.layer(label=B), {9: (9,)})
        self.assertEqual(layers.layer(NONE), {})

    def test_a_new_dict(self):
        layers = filled()
        layers.layer(A)["k"] = ("k",)
        layers.layer(C)["k"] = ("k",)
        self.assertEqual(layers, filled())
        self.assertEqual(layers.layer(C), {})


class OverlayTest(unittest.TestCase):
    def test_labels(self):
        layers = filled()
        self.assertEqual(shown(layers, NONE), [(1, (1, "low"), "-"), (2, (2, True), "-"), ("1", ("1", None), "-")])
        self.assertEqual(exact(shown(layers, A)), exact([
            (1, (1, "low"), "-"), (2, (2, 1), "a"), ("1", ("1", None), "-")]))
        self.assertEqual(shown(layers, B), [(2, (2, True), "-"), ("1", ("1", None), "-")])
        self.assertEqual(exact(shown(layers, AB)), exact([
            (1, (1, "high"), "a+b"), (2, (2, 1), "a"), ("1", ("1", None), "-")]))

    def test_label_that_no_layer_has(self):
        layers = filled()
        self.assertEqual(shown(layers, C), shown(layers, NONE))
        self.assertEqual(shown(layers, Label("a", "b", "c")), shown(layers, AB))
        self.assertEqual(shown(Layers(), AB), [])

    def test_labels_are_labels(self):
        for _, _, lower in filled().overlay(AB):
            self.assertIsInstance(lower, Label)

    def test_hidden_and_shown_again(self):
        layers = Layers()
        layers.put_row(NONE, ("k", 1))
        layers.mark_gone(A, "k")
        self.assertEqual(shown(layers, A), [])
        self.assertEqual(shown(layers, AB), [])
        layers.put_row(AB, ("k", 2))
        self.assertEqual(shown(layers, AB), [("k", ("k", 2), "a+b")])
        layers.drop_entry(A, "k")
        self.assertEqual(shown(layers, A), [("k", ("k", 1), "-")])
        layers.drop_entry(AB, "k")
        self.assertEqual(shown(layers, AB), [("k", ("k", 1), "-")])

    def test_last_label_in_order_counts(self):
        for first, second in ((A, B), (Label("z"), Label("b", "z")), (Label("a", "z"), Label("b", "c"))):
            for one, two in ((first, second), (second, first)):
                layers = Layers()
                layers.put_row(one, (1, str(one)))
                layers.put_row(two, (1, str(two)))
                layers.put_row(NONE, (1, "-"))
                self.assertEqual(shown(layers, first | second), [(1, (1, str(second)), str(second))])

    def test_against_the_words(self):
        """All states of one key at four labels, looked at from all labels over two marks."""
        labels = [NONE, A, B, AB]
        for states in itertools.product((None, "gone", "row"), repeat=4):
            layers = Layers()
            for label, state in zip(labels, states):
                if state == "gone":
                    layers.mark_gone(label, 1)
                if state == "row":
                    layers.put_row(label, (1, str(label)))
            for label in labels:
                there = [lower for lower, state in zip(labels, states) if state and lower.is_below(label)]
                last = in_order(there)[-1:]
                rows = [(1, (1, str(lower)), str(lower)) for lower in last if states[labels.index(lower)] == "row"]
                self.assertEqual(shown(layers, label), rows)

    def test_generator(self):
        layers = filled()
        steps = layers.overlay(NONE)
        layers.put_row(NONE, (0,))
        self.assertEqual(next(steps)[0], 0)
        layers.drop_entry(NONE, 1)
        layers.put_row(NONE, ("zz",))
        self.assertEqual([key for key, _, _ in steps], [1, 2, "1"])
        wrong = layers.overlay("a")
        self.assertEqual(error_of(next, wrong), ("InvalidLabel", "a"))
        self.assertEqual([key for key, _, _ in layers.overlay(label=NONE)], [0, 2, "1", "zz"])


class EqualityTest(unittest.TestCase):
    def test_one_and_true(self):
        for first, second in itertools.product((0, 1, False, True, None, "1", ""), repeat=2):
            one, two = Layers(), Layers()
            one.put_row(A, ("k", first))
            two.put_row(A, ("k", second))
            self.assertIs(one == two, exact(first) == exact(second))
            self.assertIs(one != two, exact(first) != exact(second))

    def test_what_makes_a_difference(self):
        changes = (
            lambda layers: layers.put_row(NONE, (3,)),
            lambda layers: layers.put_row(NONE, (1,)),
            lambda layers: layers.mark_gone(NONE, 1),
            lambda layers: layers.mark_gone(C, 1),
            lambda layers: layers.drop_entry(AB, "x"),
        )
        for change in changes:
            layers = filled()
            self.assertEqual(layers, filled())
            change(layers)
            self.assertNotEqual(layers, filled())

    def test_sequence_makes_none(self):
        one, two = Layers(), Layers()
        one.put_row(A, (1,))
        one.put_row(A, (2,))
        one.put_row(B, (2,))
        two.put_row(B, (2,))
        two.put_row(A, (2,))
        two.put_row(A, (1,))
        self.assertEqual(one, two)

    def test_behind_a_drop(self):
        layers = Layers()
        layers.put_row(A, (1,))
        layers.drop_entry(A, 1)
        self.assertEqual(layers, Layers())
        self.assertEqual(layers.layer(A), {})

    def test_other_kinds(self):
        for value in ({}, None, 0, "", [], (), object(), Label()):
            self.assertIs(Layers() == value, False)

    def test_clone(self):
        layers = filled()
        copied = layers.clone()
        self.assertIsInstance(copied, Layers)
        self.assertIsNot(copied, layers)
        self.assertEqual(copied, layers)
        copied.put_row(A, (2, "new"))
        copied.drop_entry(AB, "x")
        copied.put_row(C, (1,))
        self.assertEqual(layers, filled())
        layers.mark_gone(NONE, 1)
        self.assertEqual(copied.entry(NONE, 1), (1, "low"))


class RefusedTest(unittest.TestCase):
    def test_invalid_labels_come_first(self):
        for value in every_kind():
            if isinstance(value, Label):
                continue
            layers = filled()
            calls = (
                lambda: layers.put_row(value, []), lambda: layers.mark_gone(value, None),
                lambda: layers.drop_entry(value, None), lambda: layers.entry(value, None),
                lambda: layers.layer(value), lambda: list(layers.overlay(value)),
                lambda: layers.put_row(value, (1,)), lambda: layers.mark_gone(value, 1),
            )
            for call in calls:
                word, told = end_of(call)
                self.assertEqual((word, told[0]), ("error", "InvalidLabel"))
                self.assertIs(told[1], value)
            self.assertEqual(layers, filled())

    def test_invalid_rows(self):
        wrong = [(), [1], [], (None,), (True, 1), (None, 1), ((1,),), ([],), (1, []), (1, (2,)), (1, 10 ** 30)]
        wrong += [("it's",), ("a", "it's"), ("x" * 61,), ("a", "x" * 61), (10 ** 30, 1), (1, Odd()), (Odd(),)]
        wrong += [(1, b"a"), "ab", {1: 2}, 1, None, "gone", True, Label("a"), (1, Label("a")), range(1, 3)]
        for row in wrong:
            layers = filled()
            word, told = end_of(layers.put_row, NONE, row)
            self.assertEqual((word, told[0]), ("error", "InvalidRow"))
            self.assertIs(told[1], row)
            self.assertEqual(layers, filled())

    def test_valid_rows(self):
        for row in ((1,), ("",), ("x" * 60, None), (-(10 ** 30) + 1, True, False, 0, 1, "", None, "a")):
            layers = Layers()
            layers.put_row(A, row)
            self.assertEqual(exact(layers.layer(A)), exact({row[0]: row}))

    def test_keys(self):
        for key in every_kind():
            layers = filled()
            word, told = end_of(layers.mark_gone, C, key)
            if is_plain_key(key):
                self.assertEqual((word, told), ("done", None))
                self.assertEqual(layers.entry(C, key), "gone")
                continue
            self.assertEqual((word, told[0]), ("error", "InvalidKey"))
            self.assertIs(told[1], key)
            self.assertIsNone(layers.entry(NONE, key))
            word, told = end_of(layers.drop_entry, NONE, key)
            self.assertEqual((word, told[0]), ("error", "NoEntry"))
            self.assertIs(told[1], key)
            self.assertEqual(layers, filled())

    def test_no_entry(self):
        layers = filled()
        for key in (3, "2", "low", "", True):
            self.assertEqual(exact(error_of(layers.drop_entry, NONE, key)), exact(("NoEntry", key)))
        self.assertEqual(error_of(layers.drop_entry, C, 1), ("NoEntry", 1))
        self.assertEqual(layers, filled())


if __name__ == "__main__":
    unittest.main()
