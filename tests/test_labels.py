import itertools
import unittest

from aboveless.labels import Label, in_order
from tests.helpers import end_of, error_of, every_kind, unchanged

MARKS = ("a", "b", "c", "d", "ab", "z")


def all_marks():
    """The sorted marks of all labels that can be made of MARKS, in the order of labels."""
    found = []
    for size in range(5):
        found += sorted(itertools.combinations(sorted(MARKS), size))
    return found


class MakingTest(unittest.TestCase):
    def test_sequence_and_repetition(self):
        for marks in itertools.product(("a", "b", "cc"), repeat=3):
            label = Label(*marks)
            self.assertEqual(label.marks, tuple(sorted(set(marks))))
            self.assertEqual(label, Label(*reversed(marks), *marks))
            self.assertEqual(len(label), len(set(marks)))

    def test_most(self):
        self.assertEqual(Label.MOST, 4)
        self.assertEqual(Label(*"dcba" * 5).marks, ("a", "b", "c", "d"))
        self.assertEqual(error_of(Label, *"abcde"), ("TooMany", "marks", 4))
        self.assertEqual(error_of(Label, *"abcabcdeab"), ("TooMany", "marks", 4))

    def test_invalid_names(self):
        for value in every_kind():
            if isinstance(value, str) and value.isalpha() and value.islower() and len(value) <= 8:
                self.assertEqual(Label(value).marks, (value,))
                continue
            for given in ((value,), ("a", value, 7), ("a", "b", "c", "d", "e", value), (value, "A")):
                word, told = end_of(Label, *given)
                self.assertEqual((word, told[0]), ("error", "InvalidName"))
                self.assertIs(told[1], value)

    def test_texts(self):
        cases = [((), "-", "Label()"), (("b",), "b", "Label('b')"), (("b", "a"), "a+b", "Label('a', 'b')")]
        cases += [(("d", "ccc", "b", "a"), "a+b+ccc+d", "Label('a', 'b', 'ccc', 'd')")]
        for marks, text, shown in cases:
            label = Label(*marks)
            self.assertEqual((str(label), repr(label), len(label)), (text, shown, len(marks)))
            self.assertEqual(label.marks, tuple(sorted(marks)))
            self.assertEqual((str(label), repr(label)), (text, shown))

    def test_equality(self):
        labels = [Label(*marks) for marks in all_marks()]
        for first, second in itertools.product(range(len(labels)), repeat=2):
            self.assertIs(labels[first] == labels[second], first == second)
            self.assertIs(labels[first] != labels[second], first != second)
        for value in (1, "a", ("a",), ["a"], None, True, {"a"}, object()):
            self.assertIs(Label("a") == value, False)
            self.assertIs(value == Label("a"), False)

    def test_in(self):
        for value in every_kind():
            self.assertIs(value in Label("a", "abcdefgh"), isinstance(value, str) and value in ("a", "abcdefgh"))
            self.assertIs(value in Label(), False)


class OfTextTest(unittest.TestCase):
    def test_all_labels(self):
        for marks in all_marks():
            text = "+".join(marks) if marks else "-"
            self.assertEqual(Label.of_text(text), Label(*marks))
            self.assertEqual(str(Label.of_text(text=text)), text)

    def test_nearly(self):
        nearly = ["", " ", "b+a", "a+a", "a+b+b", "a+b+c+d+e", "+", "a+", "+a", "a++b", "A", "a+B", " a", "a ", "a +b"]
        nearly += ["a+ b", "--", "-+a", "a+-", "a-b", "a,b", "abcdefghi", "a1", "1", "c+a+b", "a+b+c+d+d", "'a'", "a:b"]
        for text in nearly:
            self.assertEqual(error_of(Label.of_text, text), ("InvalidText", "label"), text)

    def test_short_texts(self):
        texts = ["+".join(marks) for size in (1, 2) for marks in itertools.combinations(["a", "aa", "ab", "b"], size)]
        for size in range(5):
            for letters in itertools.product("ab+-", repeat=size):
                text = "".join(letters)
                names = sorted(set(text.split("+")))
                good = text == "-" or ("" not in names and "-" not in text and "+".join(names) == text)
                self.assertIs(error_of(Label.of_text, text) is None, good, text)
        self.assertTrue(all(error_of(Label.of_text, text) is None for text in texts))

    def test_no_string(self):
        for value in every_kind():
            if not isinstance(value, str):
                self.assertEqual(error_of(Label.of_text, value), ("InvalidText", "string"))


class BelowTest(unittest.TestCase):
    def test_is_below(self):
        for first, second in itertools.product(all_marks(), repeat=2):
            self.assertIs(Label(*first).is_below(Label(*second)), set(first) <= set(second))
        self.assertIs(Label("a").is_below(other=Label("a")), True)

    def test_below(self):
        for marks in all_marks():
            expected = [other for other in all_marks() if set(other) <= set(marks)]
            label = Label(*marks)
            self.assertEqual([lower.marks for lower in label.below()], expected)
            self.assertEqual([lower.marks for lower in label.below()], expected)
            self.assertTrue(all(isinstance(lower, Label) for lower in label.below()))

    def test_below_is_a_generator(self):
        steps = Label("a").below()
        self.assertIs(iter(steps), steps)
        self.assertEqual(next(steps), Label())
        self.assertEqual(next(steps), Label("a"))
        self.assertEqual(list(steps), [])

    def test_or_and(self):
        for first, second in itertools.product(all_marks(), repeat=2):
            both = tuple(sorted(set(first) & set(second)))
            either = tuple(sorted(set(first) | set(second)))
            self.assertEqual((Label(*first) & Label(*second)).marks, both)
            if len(either) > 4:
                self.assertEqual(error_of(lambda: Label(*first) | Label(*second)), ("TooMany", "marks", 4))
            else:
                self.assertEqual((Label(*first) | Label(*second)).marks, either)

    def test_invalid_labels(self):
        for value in every_kind():
            if isinstance(value, Label):
                continue
            for label in (Label(), Label("a"), Label("a", "b", "c", "d")):
                calls = (lambda: label.is_below(value), lambda: label | value, lambda: label & value)
                for call in calls:
                    word, told = end_of(call)
                    self.assertEqual((word, told[0]), ("error", "InvalidLabel"))
                    self.assertIs(told[1], value)


class InOrderTest(unittest.TestCase):
    def test_order(self):
        labels = [Label(*marks) for marks in all_marks()]
        mixed = labels[::-2] + labels[::3] + labels[::2] + labels[1::2]
        self.assertEqual([label.marks for label in in_order(mixed)], all_marks())
        self.assertEqual([label.marks for label in in_order(labels=tuple(mixed))], all_marks())
        self.assertIsInstance(in_order(()), list)
        self.assertEqual(in_order([]), [])

    def test_below_never_comes_after(self):
        labels = in_order([Label(*marks) for marks in all_marks()])
        for first, second in itertools.combinations(labels, 2):
            self.assertFalse(second.is_below(first))

    def test_by_numbers_then_by_tuples(self):
        labels = [Label(), Label("z"), Label("a", "z"), Label("ab", "b"), Label("b", "c"), Label("a", "b", "c")]
        self.assertEqual(in_order(labels[::-1]), labels)

    def test_new_list_and_nothing_changed(self):
        given = [Label("b"), Label("a"), Label("b")]
        returned = in_order(given)
        self.assertEqual([str(label) for label in given], ["b", "a", "b"])
        self.assertEqual([str(label) for label in returned], ["a", "b"])
        returned.append(None)
        self.assertEqual([str(label) for label in in_order(given)], ["a", "b"])
        self.assertEqual(unchanged(self, in_order, []), [])

    def test_first_that_is_no_label(self):
        for value in every_kind():
            if isinstance(value, Label):
                continue
            for given in ([value], [Label("a"), value, 5], (value, "a")):
                word, told = end_of(in_order, given)
                self.assertEqual((word, told[0]), ("error", "InvalidLabel"))
                self.assertIs(told[1], value)


if __name__ == "__main__":
    unittest.main()
