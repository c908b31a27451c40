import itertools
import unittest

from aboveless.labels import Label
from aboveless.values import in_value_order, is_count, is_integer, is_name, is_value, read_value, value_text
from tests.helpers import Odd, end_of, error_of, every_kind, exact, unchanged

SORTS = ("int", "text", "truth")


def plain_sort(value):
    """The sort of a value as [6] tells it, found in another way than the program's."""
    if type(value) is bool:
        return "truth"
    if type(value) is int and len(str(abs(value))) <= 30:
        return "int"
    if type(value) is str and len(value) <= 60 and value.count("'") == 0:
        return "text"
    return None


class KindsTest(unittest.TestCase):
    def test_is_name(self):
        names = [value for value in every_kind() if is_name(value) is True]
        self.assertEqual(names, ["a", "b", "true", "int", "text", "empty", "abcdefgh", "gone"])
        self.assertTrue(all(is_name(value) in (True, False) for value in every_kind()))

    def test_is_name_letter_by_letter(self):
        for code in range(32, 127):
            self.assertIs(is_name(chr(code)), "a" <= chr(code) <= "z", chr(code))
            self.assertIs(is_name("a" + chr(code)), "a" <= chr(code) <= "z", chr(code))
        self.assertIs(is_name("zyxwvuts"), True)
        self.assertIs(is_name("zyxwvutsr"), False)

    def test_is_integer(self):
        for value in every_kind():
            self.assertIs(is_integer(value), type(value) is int, repr(type(value)))

    def test_is_count(self):
        for value in every_kind():
            self.assertIs(is_count(value), type(value) is int and value > -1, repr(type(value)))
        self.assertIs(is_count(value=0), True)
        self.assertIs(is_count(10 ** 39), True)
        self.assertIs(is_count(-1), False)

    def test_is_value(self):
        for sort, value in itertools.product(SORTS, every_kind()):
            expected = plain_sort(value) == sort
            self.assertIs(is_value(sort, value), expected, (sort, type(value)))
            self.assertIs(is_value(sort, value, may_be_empty=False), expected)
            self.assertIs(is_value(sort, value, may_be_empty=True), expected or value is None)

    def test_is_value_bounds(self):
        for digits, expected in ((29, True), (30, True), (31, False), (40, False)):
            for number in (int("9" * digits), int("1" + "0" * (digits - 1))):
                self.assertIs(is_value("int", number), expected)
                self.assertIs(is_value("int", -number), expected)
        self.assertIs(is_value("text", "x" * 60), True)
        self.assertIs(is_value("text", "x" * 61), False)
        self.assertIs(is_value("text", ""), True)
        self.assertIs(is_value("text", "'"), False)
        self.assertIs(is_value("int", True), False)
        self.assertIs(is_value("truth", 1), False)

    def test_is_value_of_no_sort(self):
        for sort in every_kind():
            if isinstance(sort, str) and sort in SORTS:
                continue
            for value in (1, True, "a", None, Odd()):
                self.assertIs(is_value(sort, value), False)
                self.assertIs(is_value(sort, value, may_be_empty=True), False)

    def test_may_be_empty_is_passed_by_name_only(self):
        with self.assertRaises(TypeError):
            is_value("int", None, True)
        self.assertIs(is_value(value=None, sort="int", may_be_empty=True), True)


class TextsTest(unittest.TestCase):
    TEXTS = (
        (0, "0"), (7, "7"), (-7, "-7"), (10 ** 30 - 1, "9" * 30), (-(10 ** 30) + 1, "-" + "9" * 30),
        ("", "''"), ("a", "'a'"), ("a b (c)", "'a b (c)'"), ("true", "'true'"), ("1", "'1'"),
        ("x" * 60, "'" + "x" * 60 + "'"), (True, "true"), (False, "false"), (None, "empty"),
    )

    def test_there_and_back(self):
        for value, text in self.TEXTS:
            self.assertEqual(exact(value_text(value)), exact(text))
            self.assertEqual(exact(read_value(text)), exact(value))
            self.assertEqual(exact(value_text(value=value)), exact(text))
            self.assertEqual(exact(read_value(text=text)), exact(value))

    def test_all_characters(self):
        for code in range(32, 127):
            if chr(code) not in "'%":
                self.assertEqual(read_value(f"'{chr(code)}'"), chr(code))
                self.assertEqual(value_text(chr(code)), f"'{chr(code)}'")

    def test_value_text_of_others(self):
        for value in every_kind():
            if value is None or plain_sort(value) is not None:
                self.assertEqual(exact(read_value(value_text(value))), exact(value))
            else:
                word, told = end_of(value_text, value)
                self.assertEqual((word, told[0]), ("error", "InvalidKey"))
                self.assertIs(told[1], value)

    def test_texts_that_are_nearly_values(self):
        nearly = ["-0", "01", "00", "-01", "+1", " 1", "1 ", "- 1", "--1", "1_0", "1-", "-", "'", "'a", "a'", "'a'b'"]
        nearly += ["True", "FALSE", "tru", "true ", " true", "", " ", "Empty", "empty ", "None", "none", "a", "()"]
        nearly += ["9" * 31, "-" + "9" * 31, "9" * 5000, "'" + "x" * 61 + "'", "'''", "''''", "'a''b'", "1.0", "0x1"]
        nearly += ["1e3", "\"a\"", "'a' ", " 'a'", "(none int)"]
        for text in nearly:
            self.assertEqual(error_of(read_value, text), ("InvalidText", "value"), text)

    def test_short_texts(self):
        """All strings of up to four of these characters: accepted just if some value has this text."""
        values = [None, True, False] + list(range(-999, 10000))
        values += ["".join(word) for size in range(3) for word in itertools.product("01-+ a", repeat=size)]
        texts = {value_text(value): value for value in values}
        for size in range(5):
            for letters in itertools.product("01-+ a'", repeat=size):
                text = "".join(letters)
                if text in texts:
                    self.assertEqual(exact(read_value(text)), exact(texts[text]))
                else:
                    self.assertEqual(error_of(read_value, text), ("InvalidText", "value"), text)

    def test_no_string(self):
        for value in every_kind():
            if not isinstance(value, str):
                self.assertEqual(error_of(read_value, value), ("InvalidText", "string"))


class OrderTest(unittest.TestCase):
    def test_order(self):
        ordered = [None, False, True, -(10 ** 29), -2, -1, 0, 1, 2, 10, 10 ** 29, "", " ", "1", "10", "2", "B", "a", "aa"]
        self.assertEqual(exact(in_value_order(ordered[::-1])), exact(ordered))
        self.assertEqual(exact(in_value_order(tuple(ordered[::2] + ordered[1::2]))), exact(ordered))

    def test_pairs(self):
        ordered = [None, False, True, -1, 0, 1, "", "0", "a"]
        for first, second in itertools.product(range(len(ordered)), repeat=2):
            expected = [ordered[min(first, second)], ordered[max(first, second)]]
            self.assertEqual(exact(in_value_order([ordered[first], ordered[second]])), exact(expected))

    def test_equal_ones_stay(self):
        given = [1, True, 1, "a", None, True, "a", None, 0, False]
        expected = [None, None, False, True, True, 0, 1, 1, "a", "a"]
        self.assertEqual(exact(unchanged(self, in_value_order, given)), exact(expected))
        self.assertEqual(exact(in_value_order(values=given)), exact(expected))

    def test_a_new_list(self):
        given = [1, 2]
        returned = in_value_order(given)
        self.assertIsNot(returned, given)
        returned.append(3)
        self.assertEqual(in_value_order(given), [1, 2])
        self.assertEqual(in_value_order([]), [])
        self.assertEqual(exact(in_value_order(())), exact([]))

    def test_first_that_is_none(self):
        for value in every_kind():
            if value is None or plain_sort(value) is not None:
                continue
            for before in ([], [1, "a"], [None]):
                word, told = end_of(in_value_order, before + [value, 10 ** 30, "'", []])
                self.assertEqual((word, told[0]), ("error", "InvalidKey"))
                self.assertIs(told[1], value)
        self.assertEqual(error_of(in_value_order, [Label()]), ("InvalidKey", Label()))


if __name__ == "__main__":
    unittest.main()
