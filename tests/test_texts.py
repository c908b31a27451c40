import itertools
import unittest

from aboveless.texts import parts_of
from tests.helpers import error_of, every_kind


def part_end(text, at, depth):
    """The end of the part that begins here; None if there is none."""
    if text[at:at + 1] == "'":
        end = text.find("'", at + 1)
        return None if end < 0 else end + 1
    if text[at:at + 1] == "(":
        return form_end(text, at, depth + 1)
    end = at
    while end < len(text) and text[end] not in " ()'":
        end += 1
    return end if end > at else None


def form_end(text, at, depth):
    """The end of the text in parentheses that begins here; None if there is none."""
    if depth > 13 or text[at:at + 1] != "(":
        return None
    at += 1
    if text[at:at + 1] == ")":
        return at + 1
    while True:
        end = part_end(text, at, depth)
        if end is None:
            return None
        if text[end:end + 1] == ")":
            return end + 1
        if text[end:end + 1] != " ":
            return None
        at = end + 1


def plain_parts(text):
    """The parts by descent; None if the text has not the form."""
    if form_end(text, 0, 1) != len(text):
        return None
    parts = []
    at = 1
    while at < len(text) - 1:
        end = part_end(text, at, 1)
        parts.append(text[at:end])
        at = end + 1
    return parts


def nested(depth, inner=""):
    return "(" * depth + inner + ")" * depth


class PartsTest(unittest.TestCase):
    def test_given_example(self):
        self.assertEqual(parts_of("(a (b c) 'd (e')"), ["a", "(b c)", "'d (e'"])

    def test_parts(self):
        cases = {
            "()": [], "(a)": ["a"], "(a b)": ["a", "b"], "(())": ["()"], "(() ())": ["()", "()"],
            "('')": ["''"], "(' ' '(' ')' '( )')": ["' '", "'('", "')'", "'( )'"],
            "(a ('b) c' (d)) e)": ["a", "('b) c' (d))", "e"],
            "(-5 a.b true ward:a+b =?!\"#&*,;<>@[]^_`{|}~\\/)":
                ["-5", "a.b", "true", "ward:a+b", "=?!\"#&*,;<>@[]^_`{|}~\\/"],
        }
        for text, parts in cases.items():
            self.assertEqual(parts_of(text), parts)
            self.assertEqual(parts_of(text=text), parts)

    def test_each_character(self):
        for code in range(33, 127):
            sign = chr(code)
            if sign not in "()'%":
                self.assertEqual(parts_of(f"({sign} a{sign}{sign}b)"), [sign, f"a{sign}{sign}b"])
            if sign not in "'%":
                self.assertEqual(parts_of(f"('{sign}' ' {sign} ')"), [f"'{sign}'", f"' {sign} '"])

    def test_depth(self):
        for depth in range(1, 14):
            self.assertEqual(parts_of(nested(depth)), [nested(depth - 1)] if depth > 1 else [])
            self.assertEqual(parts_of(nested(depth, "a 'b'"))[0], nested(depth - 1, "a 'b'") if depth > 1 else "a")
            self.assertEqual(parts_of(f"(a {nested(depth - 1, 'b')} c)"), ["a", nested(depth - 1, "b"), "c"])
        for depth in (14, 15, 100, 1200):
            self.assertEqual(error_of(parts_of, nested(depth)), ("InvalidText", "form"))
            self.assertEqual(error_of(parts_of, nested(depth, "a")), ("InvalidText", "form"))
            self.assertEqual(error_of(parts_of, f"(a {nested(depth - 1, 'b')})"), ("InvalidText", "form"))
        self.assertEqual(parts_of(f"({nested(12)} {nested(12, 'x')})"), [nested(12), nested(12, "x")])
        self.assertEqual(parts_of(f"('{nested(40)}')"), [f"'{nested(40)}'"])
        self.assertEqual(error_of(parts_of, "(" * 1200), ("InvalidText", "form"))
        self.assertEqual(error_of(parts_of, ")" * 1200), ("InvalidText", "form"))

    def test_many_parts(self):
        words = ["a", "'b c'", "(d)"] * 500
        self.assertEqual(parts_of(f"({' '.join(words)})"), words)

    def test_one_sign_changed(self):
        """Each sign of a text left out, doubled, replaced or put somewhere else."""
        text = "(a (b c) 'd (e' () ((f)))"
        variants = [text[:at] + text[at + 1:] for at in range(len(text))]
        variants += [text[:at] + sign + text[at:] for at in range(len(text) + 1) for sign in "() 'a"]
        variants += [text[:at] + sign + text[at + 1:] for at in range(len(text)) for sign in "() 'a"]
        accepted = 0
        for variant in variants:
            parts = plain_parts(variant)
            if parts is None:
                self.assertEqual(error_of(parts_of, variant), ("InvalidText", "form"), variant)
            else:
                self.assertEqual(parts_of(variant), parts)
                accepted += 1
        self.assertGreater(accepted, 20)

    def test_all_short_texts(self):
        for size in range(8):
            for signs in itertools.product("() 'a", repeat=size):
                text = "".join(signs)
                parts = plain_parts(text)
                if parts is None:
                    self.assertEqual(error_of(parts_of, text), ("InvalidText", "form"), text)
                else:
                    self.assertEqual(parts_of(text), parts, text)

    def test_wrong_forms(self):
        wrong = ["", " ", "a", "'a'", "(", ")", ")(", "(a", "a)", "(a))", "((a)", " (a)", "(a) ", "( a)", "(a )", "(a  b)"]
        wrong += ["( )", "(a(b))", "((b)a)", "(a'b')", "('a'b)", "('a''b')", "('a)", "(a')", "(a) (b)", "(a)(b)", "()()"]
        wrong += ["('a'(b))", "((a)'b')", "((a)(b))", "(a b) c"]
        for text in wrong:
            self.assertEqual(error_of(parts_of, text), ("InvalidText", "form"), text)

    def test_no_string(self):
        for value in every_kind():
            if not isinstance(value, str):
                self.assertEqual(error_of(parts_of, value), ("InvalidText", "string"))

    def test_a_new_list(self):
        parts_of("(a b)").append("c")
        self.assertEqual(parts_of("(a b)"), ["a", "b"])


if __name__ == "__main__":
    unittest.main()
