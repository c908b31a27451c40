import itertools
import unittest

from aboveless.expressions import Expression
from aboveless.labels import Label
from tests.helpers import Odd, end_of, error_of, every_kind, exact, unchanged

BIG = 10 ** 30 - 1
COLUMNS = {"n": "int", "m": "int", "s": "text", "t": "text", "b": "truth", "c": "truth", "p.n": "int", "p.s": "text"}
# one column and one constant of each sort
OF_SORT = {"int": ("n", "5"), "text": ("s", "'x'"), "truth": ("b", "true")}


def plain_sort_of(word, sorts):
    """The sort of an operation by the table in [8]; None if its parts have wrong sorts."""
    if word in ("add", "sub", "mul"):
        return "int" if sorts == ("int", "int") else None
    if word == "cat":
        return "text" if sorts == ("text", "text") else None
    if word == "size":
        return "int" if sorts == ("text",) else None
    if word == "same":
        return "truth" if sorts[0] == sorts[1] else None
    if word == "less":
        return "truth" if sorts[0] == sorts[1] != "truth" else None
    if word in ("not", "and", "or"):
        return "truth" if set(sorts) == {"truth"} else None
    if word == "filled":
        return "truth"
    return sorts[1] if sorts[0] == "truth" and sorts[1] == sorts[2] else None


PARTS = {
    "add": 2, "sub": 2, "mul": 2, "cat": 2, "size": 1, "same": 2, "less": 2, "not": 1, "and": 2, "or": 2,
    "filled": 1, "pick": 3,
}


def wide(parts):
    """An expression with this odd number of parts, of the least depth."""
    if parts == 1:
        return "1"
    inner = parts - 1
    left = inner // 2 if (inner // 2) % 2 == 1 else inner // 2 + 1
    return f"(add {wide(left)} {wide(inner - left)})"


def deep(depth, leaf="true"):
    return "(not " * (depth - 1) + leaf + ")" * (depth - 1)


def value(text, **values):
    return Expression(text).value_in({name: part for name, part in values.items()})


class FormTest(unittest.TestCase):
    def accepted(self, text, parts, columns, size):
        expression = Expression(text)
        self.assertEqual(expression.text, text)
        self.assertEqual(str(expression), text)
        self.assertEqual(repr(expression), "Expression(" + repr(text) + ")")
        self.assertEqual(expression.parts(), parts)
        self.assertEqual(expression.columns(), columns)
        self.assertEqual(len(expression), size)
        self.assertEqual(expression, Expression(text=text))

    def refused(self, text):
        self.assertEqual(error_of(Expression, text), ("InvalidText", "expression"), text)

    def test_values(self):
        texts = ["0", "-1", "9" * 30, "-" + "9" * 30, "''", "'a b'", "'(add 1 2)'", "'" + "x" * 60 + "'", "true"]
        for text in texts + ["false", "(none int)", "(none text)", "(none truth)"]:
            self.accepted(text, [], [], 1)

    def test_columns(self):
        for text in ("a", "abcdefgh", "abcdefgh.ijklmnop", "a.true", "true.a", "false.true", "none", "empty", "add"):
            self.accepted(text, [], [text], 1)

    def test_operations(self):
        for word, many in PARTS.items():
            parts = ["a", "'(b c)'", "p.a"][:many]
            columns = [part for part in parts if "'" not in part]
            self.accepted(f"({word} {' '.join(parts)})", [word] + parts, columns, many + 1)
            for wrong in (many - 1, many + 1):
                self.refused(f"({' '.join([word] + ['a'] * wrong)})")
            self.refused(f"({word.upper()} {' '.join(parts)})")
            self.refused(f"{word} {' '.join(parts)}")

    def test_nested(self):
        text = "(pick (less p.n (add 1 p.n)) (cat q.s 'a') (pick b p.s (none text)))"
        parts = ["pick", "(less p.n (add 1 p.n))", "(cat q.s 'a')", "(pick b p.s (none text))"]
        self.accepted(text, parts, ["p.n", "q.s", "b", "p.s"], 13)

    def test_columns_once_in_sequence(self):
        self.accepted("(add (add b a) (add a (add c b)))",
                      ["add", "(add b a)", "(add a (add c b))"], ["b", "a", "c"], 9)

    def test_sixty_parts(self):
        self.accepted(wide(59), Expression(wide(59)).parts(), [], 59)
        sixty = f"(add {wide(57)} (size 'a'))"
        self.assertEqual(len(Expression(sixty)), 60)
        self.refused(wide(61))
        self.refused(f"(size {sixty})")
        self.refused(wide(63))
        with_empty = wide(59).replace("1", "(none int)")
        self.assertEqual(len(Expression(with_empty)), 59)

    def test_depth(self):
        for leaf in ("true", "a", "p.a", "(none truth)"):
            for depth in range(1, 9):
                self.assertEqual(len(Expression(deep(depth, leaf))), depth)
            for depth in (9, 10, 12, 13, 14, 30, 1200):
                self.refused(deep(depth, leaf))
        self.refused(f"(and {deep(7)} {deep(8)})")
        self.assertEqual(len(Expression(f"(and {deep(7)} {deep(7)})")), 15)
        self.refused("(" * 1200 + ")" * 1200)
        self.refused("(" * 1200)

    def test_bounds(self):
        self.refused("9" * 31)
        self.refused("-" + "9" * 31)
        self.refused("9" * 5000)
        self.refused("'" + "x" * 61 + "'")
        self.refused("abcdefghi")
        self.refused("abcdefghi.a")
        self.refused("a.abcdefghi")
        self.refused("(add 1 " + "9" * 31 + ")")

    def test_nearly(self):
        nearly = ["", " ", "()", "( )", "A", "a1", "a.b.c", "a.", ".a", ".", "a .b", "a. b", " a", "a ", "+1", "01", "-0"]
        nearly += ["1.5", "'", "'a", "a'", "'a'b'", "True", "(none)", "(none int )", "( none int)", "(none  int)"]
        nearly += ["(none Int)", "(none int int)", "(none 'int')", "(none a)", "(none bool)", "(a)", "(1)", "('a')"]
        nearly += ["(true)", "((not a))", "(not  a)", "(not a )", "( not a)", "(not a", "not a)", "(not a))", "((not a)"]
        nearly += ["(nota)", "(not(a))", "(not (a))", "(not ())", "('not' a)", "((not) a)", "(count)", "(sum a)"]
        nearly += ["(least a)", "(greatest a)", "(div 1 2)", "(add a b c)", "(add a)", "(add)", "(and a (or b))"]
        nearly += ["(same a B)", "(same a b)c", "(same a b) ", " (same a b)", "(same a, b)", "(size 'a)", "(size 'a'b)"]
        for text in nearly:
            self.refused(text)

    def test_no_string(self):
        for given in every_kind():
            if not isinstance(given, str):
                self.assertEqual(error_of(Expression, given), ("InvalidText", "string"))

    def test_equality(self):
        texts = ["1", "true", "'1'", "a", "(not a)", "(same a b)", "(same b a)", "(none int)"]
        for first, second in itertools.product(texts, repeat=2):
            self.assertIs(Expression(first) == Expression(second), first == second)
            self.assertIs(Expression(first) != Expression(second), first != second)
        for other in ("a", 1, None, ["a"], Label("a"), object()):
            self.assertIs(Expression("a") == other, False)

    def test_new_lists(self):
        expression = Expression("(add a b)")
        expression.parts().append("c")
        expression.columns().append("c")
        self.assertEqual(expression.parts(), ["add", "a", "b"])
        self.assertEqual(expression.columns(), ["a", "b"])
        self.assertEqual(Expression("1").parts(), [])


class SortTest(unittest.TestCase):
    def test_every_operation_with_all_sorts(self):
        for word, many in PARTS.items():
            for sorts in itertools.product(OF_SORT, repeat=many):
                for choice in (0, 1):
                    parts = [OF_SORT[sort][choice] for sort in sorts]
                    expression = Expression(f"({word} {' '.join(parts)})")
                    expected = plain_sort_of(word, sorts)
                    if expected is None:
                        self.assertEqual(error_of(expression.sort_in, COLUMNS), ("WrongSort", ()), expression)
                    else:
                        self.assertEqual(unchanged(self, expression.sort_in, COLUMNS), expected)

    def test_values_and_columns(self):
        cases = [("1", "int"), ("'1'", "text"), ("true", "truth"), ("(none int)", "int"), ("(none text)", "text")]
        cases += [("(none truth)", "truth")] + list(COLUMNS.items())
        for text, sort in cases:
            self.assertEqual(Expression(text).sort_in(COLUMNS), sort)
            self.assertEqual(Expression(text).sort_in(columns=COLUMNS), sort)
        self.assertEqual(Expression("1").sort_in({}), "int")

    def test_places(self):
        cases = [
            ("(and (less 1 'a') (not 1))", ("WrongSort", (0,))),
            ("(and (less 1 2) (not 1))", ("WrongSort", (1,))),
            ("(not (size (cat s (add 1 'a'))))", ("WrongSort", (0, 0, 1))),
            ("(not (size (cat s t)))", ("WrongSort", ())),
            ("(add (size n) x)", ("WrongSort", (0,))),
            ("(add x (size n))", ("UnknownColumn", "x")),
            ("(add s x)", ("UnknownColumn", "x")),
            ("(add s n)", ("WrongSort", ())),
            ("(pick n (cat s y) (size z))", ("UnknownColumn", "y")),
            ("(pick b (cat s t) (size z))", ("UnknownColumn", "z")),
            ("(pick b (cat s t) (size n))", ("WrongSort", (2,))),
            ("(pick b (cat s t) (size s))", ("WrongSort", ())),
            ("(pick (pick 1 2 3) (not 1) x)", ("WrongSort", (0,))),
            ("(filled q.n)", ("UnknownColumn", "q.n")),
            ("p.t", ("UnknownColumn", "p.t")),
        ]
        for text, told in cases:
            self.assertEqual(error_of(Expression(text).sort_in, COLUMNS), told, text)
            self.assertEqual(error_of(Expression(text).sort_in, COLUMNS), told, text)

    def test_first_in_depth(self):
        """Two wrong parts in all places of a tree: the left one, or the inner one, decides."""
        leaves = [(0, 0), (0, 1), (1, 0), (1, 1)]
        for wrong in itertools.product((False, True), repeat=4):
            texts = ["(not 1)" if bad else "true" for bad in wrong]
            text = f"(and (and {texts[0]} {texts[1]}) (and {texts[2]} {texts[3]}))"
            places = [place for place, bad in zip(leaves, wrong) if bad]
            expected = ("WrongSort", places[0]) if places else None
            self.assertEqual(error_of(Expression(text).sort_in, {}), expected)


class ValueTest(unittest.TestCase):
    def test_integers(self):
        numbers = (0, 1, -1, 7, -12, BIG, -BIG, BIG // 2)
        for first, second in itertools.product(numbers, repeat=2):
            results = {"add": first + second, "sub": first - second, "mul": first * second}
            for word, result in results.items():
                expected = result if abs(result) <= BIG else None
                self.assertEqual(exact(value(f"({word} n m)", n=first, m=second)), exact(expected))
                self.assertEqual(exact(value(f"({word} {first} {second})")), exact(expected))
            self.assertIs(value("(same n m)", n=first, m=second), first == second)
            self.assertIs(value("(less n m)", n=first, m=second), first < second)

    def test_just_within_and_beyond(self):
        self.assertEqual(value(f"(add {BIG} 0)"), BIG)
        self.assertIsNone(value(f"(add {BIG} 1)"))
        self.assertIsNone(value(f"(sub -{BIG} 1)"))
        self.assertEqual(value(f"(sub -{BIG - 1} 1)"), -BIG)
        self.assertEqual(value(f"(mul {10 ** 15} {10 ** 14})"), 10 ** 29)
        self.assertIsNone(value(f"(mul {10 ** 15} {10 ** 15})"))
        self.assertIsNone(value(f"(mul -{10 ** 15} {10 ** 15})"))
        self.assertIsNone(value(f"(sub (add {BIG} 1) 1)"))
        self.assertEqual(value("(cat s t)", s="x" * 30, t="y" * 30), "x" * 30 + "y" * 30)
        self.assertIsNone(value("(cat s t)", s="x" * 30, t="y" * 31))
        self.assertIsNone(value("(size (cat s t))", s="x" * 60, t="y"))

    def test_strings(self):
        strings = ("", "a", "b", "B", " ", "ab", "aa", "10", "9", "x" * 60)
        for first, second in itertools.product(strings, repeat=2):
            joined = first + second
            self.assertEqual(value("(cat s t)", s=first, t=second), joined if len(joined) <= 60 else None)
            self.assertIs(value("(same s t)", s=first, t=second), first == second)
            self.assertIs(value(f"(less '{first}' '{second}')"), first < second)
            self.assertEqual(exact(value("(size s)", s=first)), exact(len(first)))

    def test_truth(self):
        both = {(True, True): True, (True, False): False, (True, None): None, (False, None): False, (None, None): None,
                (False, False): False}
        either = {(True, True): True, (True, False): True, (True, None): True, (False, None): None,
                  (None, None): None, (False, False): False}
        for first, second in itertools.product((True, False, None), repeat=2):
            pair = (first, second) if (first, second) in both else (second, first)
            self.assertIs(value("(and b c)", b=first, c=second), both[pair])
            self.assertIs(value("(or b c)", b=first, c=second), either[pair])
            equal = None if None in (first, second) else first == second
            self.assertIs(value("(same b c)", b=first, c=second), equal)
            self.assertIs(value("(not b)", b=first), None if first is None else not first)

    def test_empty_parts(self):
        for word, sort in (("add", "int"), ("sub", "int"), ("mul", "int"), ("cat", "text"), ("less", "int"),
                           ("less", "text"), ("same", "int"), ("same", "text"), ("same", "truth")):
            there = OF_SORT[sort][1]
            for first, second in ((there, f"(none {sort})"), (f"(none {sort})", there), (f"(none {sort})",) * 2):
                self.assertIsNone(value(f"({word} {first} {second})"))
        self.assertIsNone(value("(size (none text))"))
        self.assertIsNone(value("(not (none truth))"))

    def test_filled(self):
        for sort, (_, constant) in OF_SORT.items():
            self.assertIs(value(f"(filled {constant})"), True)
            self.assertIs(value(f"(filled (none {sort}))"), False)
        for given in (0, "", False, True, 1):
            self.assertIs(value("(filled a)", a=given), True)
        self.assertIs(value("(filled a)", a=None), False)
        self.assertIs(value("(filled (and a true))", a=None), False)

    def test_pick(self):
        for test, first, second in itertools.product((True, False, None), (1, 2, None), (1, 2, None)):
            expected = first if test is True else second
            self.assertEqual(exact(value("(pick b n m)", b=test, n=first, m=second)), exact(expected))
        self.assertIs(value("(pick true false true)"), False)
        self.assertEqual(value("(pick (none truth) 'a' 'b')"), "b")
        self.assertIsNone(value("(pick true (none int) 5)"))
        self.assertEqual(value(f"(pick false (add {BIG} 1) 5)"), 5)

    def test_values_and_columns(self):
        for text, expected in (("0", 0), ("-5", -5), ("''", ""), ("'true'", "true"), ("true", True), ("false", False),
                               ("(none int)", None), ("(none text)", None), ("(none truth)", None)):
            self.assertEqual(exact(value(text)), exact(expected))
        for given in (0, 1, True, False, "", "a", None, BIG):
            self.assertEqual(exact(value("a", a=given)), exact(given))
            self.assertEqual(exact(Expression("p.a").value_in(values={"p.a": given, "a": 3})), exact(given))

    def test_one_and_true_apart(self):
        self.assertEqual(exact(value("(pick b n m)", b=True, n=1, m=0)), exact(1))
        self.assertEqual(exact(value("(pick b c d)", b=True, c=True, d=False)), exact(True))
        self.assertEqual(exact(value("(add n 1)", n=0)), exact(1))
        self.assertEqual(exact(value("(same n 1)", n=1)), exact(True))

    def test_unknown_columns(self):
        expression = Expression("(pick c (add b a) (add a (size d)))")
        self.assertEqual(expression.columns(), ["c", "b", "a", "d"])
        values = {"a": 1, "b": 1, "c": True, "d": "x", "e": 5}
        for kept in itertools.product((True, False), repeat=4):
            some = {name: values[name] for name, keeps in zip("abcd", kept) if keeps}
            missing = [name for name in "cbad" if name not in some]
            expected = ("UnknownColumn", missing[0]) if missing else None
            self.assertEqual(error_of(expression.value_in, some), expected)
        self.assertEqual(error_of(expression.value_in, {}), ("UnknownColumn", "c"))
        self.assertEqual(error_of(Expression("(or true a)").value_in, {}), ("UnknownColumn", "a"))
        self.assertEqual(error_of(Expression("(pick true 1 p.a)").value_in, {"a": 1}), ("UnknownColumn", "p.a"))

    def test_columns_beyond(self):
        for other in every_kind():
            self.assertEqual(end_of(Expression("(add a 1)").value_in, {"b": other, "a": 1}), ("done", 2))
        self.assertEqual(Expression("5").value_in({"b": Odd()}), 5)

    def test_nothing_changed(self):
        values = {"a": 1, "b": None}
        expression = Expression("(pick (filled b) b a)")
        self.assertEqual(unchanged(self, expression.value_in, values), 1)
        values["b"] = 7
        self.assertEqual(expression.value_in(values), 7)
        self.assertEqual(expression.value_in(values), 7)


if __name__ == "__main__":
    unittest.main()
