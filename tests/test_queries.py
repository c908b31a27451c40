import itertools
import unittest

from aboveless.expressions import Expression
from aboveless.labels import Label
from aboveless.queries import Query
from tests.helpers import Odd, end_of, error_of, every_kind, exact, unchanged

PLAIN = "(select (items (n p.name)) (from (p ward)))"
FULL = ("(select (items (n p.name) (c (count)) (s (sum (add p.age 1))) (l (least b.n)) (g (greatest p.name)))"
        " (from (p ward:-) (b bed:a+b)) (where (same p.bed b.n)) (group p.name) (order (down c) (up n)) (limit 20))")
SOURCES = {
    "ward": [("name", "text", False), ("age", "int", True), ("ill", "truth", True)],
    "ward:-": [("name", "text", False), ("age", "int", True), ("bed", "int", True)],
    "bed:a+b": (("n", "int", False), ("free", "truth", False)),
}


def query(items="(n p.name)", sources="(p ward)", more=""):
    return f"(select (items {items}) (from {sources}){more})"


def several(many, form):
    return " ".join(form.format(name=chr(ord("a") + at)) for at in range(many))


class FormTest(unittest.TestCase):
    def accepted(self, text):
        self.assertEqual(Query(text).text, text, text)
        return Query(text)

    def refused(self, text):
        self.assertEqual(error_of(Query, text), ("InvalidText", "query"), text)

    def test_plain(self):
        made = self.accepted(PLAIN)
        self.assertIs(made.is_grouped, False)
        self.assertEqual(made.sources(), [("p", "ward")])
        self.assertEqual(made.item_list(), [("n", "value", Expression("p.name"))])
        self.assertIsNone(made.where())
        self.assertEqual(made.groups(), [])
        self.assertEqual(made.orders(), [])
        self.assertIsNone(made.most_rows())
        self.assertEqual((str(made), repr(made)), (PLAIN, "Query(" + repr(PLAIN) + ")"))

    def test_full(self):
        made = Query(text=FULL)
        self.assertIs(made.is_grouped, True)
        self.assertEqual(made.sources(), [("p", "ward:-"), ("b", "bed:a+b")])
        self.assertEqual(made.item_list(), [
            ("n", "value", Expression("p.name")), ("c", "count", None), ("s", "sum", Expression("(add p.age 1)")),
            ("l", "least", Expression("b.n")), ("g", "greatest", Expression("p.name"))])
        self.assertEqual(made.where(), Expression("(same p.bed b.n)"))
        self.assertEqual(made.groups(), [Expression("p.name")])
        self.assertEqual(made.orders(), [("c", False), ("n", True)])
        self.assertIs(made.orders()[1][1], True)
        self.assertEqual(made.most_rows(), 20)
        self.assertEqual((str(made), repr(made), made.text), (FULL, "Query(" + repr(FULL) + ")", FULL))

    def test_sequence_of_the_parts(self):
        parts = ["(items (n p.a))", "(from (p t))", "(where p.b)", "(group p.a)", "(order (up n))", "(limit 0)"]
        for many in range(7):
            for chosen in itertools.permutations(range(6), many):
                text = f"(select {' '.join(parts[at] for at in chosen)})" if chosen else "(select)"
                if chosen[:2] == (0, 1) and list(chosen) == sorted(chosen):
                    self.accepted(text)
                else:
                    self.refused(text)
        for twice in parts:
            self.refused(f"(select {' '.join(part + (' ' + part) * (part == twice) for part in parts)})")

    def test_items(self):
        for many in range(11):
            for form in ("({name} p.a)", "({name} 1)", "({name} (cat p.a 'b'))"):
                text = query(several(many, form)) if many else query().replace(" (n p.name)", "")
                if 1 <= many <= 8:
                    self.assertEqual(len(self.accepted(text).item_list()), many)
                else:
                    self.refused(text)
        self.refused(query("(n p.a) (n p.b)"))
        self.refused(query("(n p.a) (m p.a) (n p.a)"))
        for item in ("n", "(n)", "(n p.a p.b)", "()", "('n' p.a)", "((n) p.a)", "(N p.a)", "(abcdefghi p.a)", "(p.a n)",
                     "(n p.a", "n p.a)", "(n 'a)", "(n (add 1))", "(n P.a)", "(n (count))", "(n (sum p.a))",
                     "(n (least p.a))", "(n (greatest p.a))", "(n 01)", "(n p.a )", "(1 p.a)"):
            self.refused(query(item))

    def test_grouped_items(self):
        for item, word in (("(count)", "count"), ("(sum p.a)", "sum"), ("(least p.a)", "least"),
                           ("(greatest (add p.a p.b))", "greatest"), ("p.a", "value"), ("(not p.b)", "value")):
            made = self.accepted(query(f"(n {item})", more=" (group p.a (not p.b))"))
            self.assertEqual(made.item_list()[0][:2], ("n", word))
        for item in ("p.b", "(not p.a)", "1", "(add p.a 0)", "'p.a'", "(none int)", "(count p.a)", "(count 1)", "(sum)",
                     "(sum p.a p.b)", "(least)", "(greatest p.a 1)", "(sum (count))", "(add (count) 1)", "(most p.a)",
                     "count", "sum", "('count')", "((count))", "(sum 'a)", "(sum a)", "(least q.a)"):
            self.refused(query(f"(n {item})", more=" (group p.a (not p.b))"))
        self.accepted(query("(n 1) (m (count))", more=" (group 1)"))
        self.accepted(query("(n p.a) (m p.a)", more=" (group p.a p.b)"))
        self.refused(query("(n p.a)", more=" (group)"))
        self.accepted(query("(n (count))", more=" (group)"))

    def test_sources(self):
        for many in range(7):
            sources = several(many, "({name} t)")
            text = query("(n 1)", sources) if many else "(select (items (n 1)) (from))"
            if 1 <= many <= 4:
                self.assertEqual(self.accepted(text).sources(), [(chr(97 + at), "t") for at in range(many)])
            else:
                self.refused(text)
        self.refused(query("(n p.a)", "(p t) (p u)"))
        self.refused(query("(n p.a)", "(p t) (q t) (p t)"))
        self.accepted(query("(n p.a)", "(p t) (q t)"))
        for source in ("t", "abcdefgh", "t:-", "t:a", "t:a+b+c+d", "true", "from:a"):
            self.assertEqual(self.accepted(query("(n 1)", f"(p {source})")).sources(), [("p", source)])
        for source in ("T", "abcdefghi", "t:", ":-", ":", "t:b+a", "t:a+a", "t:a+b+c+d+e", "t:A", "t:-:-", "t:a:b", "1",
                       "'t'", "(t)", "t.a", "-", "t:--", "t u", "t:a+"):
            self.refused(query("(n 1)", f"(p {source})"))
        for pair in ("p", "(p)", "()", "(P t)", "('p' t)", "(abcdefghi t)", "(1 t)", "((p) t)", "(p.q t)", "(t:- p)"):
            self.refused(query("(n 1)", pair))

    def test_where(self):
        for text in ("p.a", "true", "1", "'a'", "(and p.a (less p.b 3))", "(none truth)"):
            self.assertEqual(self.accepted(query(more=f" (where {text})")).where(), Expression(text))
        for part in ("(where)", "(where p.a p.b)", "(where (count))", "(where a)", "(where q.a)", "(where (not))", "where",
                     "(Where p.a)", "(where 'a)", "(where ())", "('where' p.a)", "((where) p.a)", "()"):
            self.refused(query(more=" " + part))

    def test_group(self):
        for many in range(7):
            expressions = [f"p.{chr(97 + at)}" for at in range(many)]
            text = query("(n (count))", more=f" ({' '.join(['group'] + expressions)})")
            if many <= 4:
                made = self.accepted(text)
                self.assertEqual(made.groups(), [Expression(part) for part in expressions])
                self.assertIs(made.is_grouped, True)
            else:
                self.refused(text)
        self.assertEqual(len(Query(query("(n p.a)", more=" (group p.a p.a)")).groups()), 2)
        for part in ("(group a)", "(group q.a)", "(group (count))", "(group (sum p.a))", "(group ())", "group"):
            self.refused(query("(n (count))", more=" " + part))

    def test_order(self):
        items = several(6, "({name} p.a)")
        for many in range(7):
            names = [chr(97 + at) for at in range(many)]
            orders = [f"(up {name})" for name in names]
            text = query(items, more=f" ({' '.join(['order'] + orders)})")
            if 1 <= many <= 4:
                self.assertEqual(self.accepted(text).orders(), [(name, True) for name in names])
            else:
                self.refused(text)
        self.assertEqual(Query(query(items, more=" (order (down f) (up a))")).orders(), [("f", False), ("a", True)])
        for part in ("(up a) (up a)", "(up a) (down a)", "(up a) (up b) (up a)", "(up g)", "(up p.a)", "(up p)", "(up)",
                     "(up a b)", "up a", "(Up a)", "(a up)", "('up' a)", "(up 'a')", "((up) a)", "(left a)", "()", "a"):
            self.refused(query(items, more=f" (order {part})"))

    def test_limit(self):
        for most in (0, 1, 9, 10, 999, 1000):
            self.assertEqual(exact(self.accepted(query(more=f" (limit {most})")).most_rows()), exact(most))
        for part in ("1001", "9999", "9" * 31, "9" * 3000, "00", "01", "0001", "-1", "-0", "+1", "1.0", "'1'", "a", "true",
                     "(1)", "1 2", "1_0", "()", "''"):
            self.refused(query(more=f" (limit {part})"))
        self.refused(query(more=" (limit)"))
        self.refused(query(more=" (limit )"))

    def test_columns_have_an_alias_of_the_query(self):
        for column in ("name", "q.name", "true.a", "ward.name", "n", "p"):
            self.refused(query(f"(n {column})"))
            self.refused(query(f"(n (filled {column}))"))
            self.refused(query(more=f" (where (filled {column}))"))
            self.refused(query("(n (count))", more=f" (group (size {column}))"))
            self.refused(query("(n (sum {column}))", more=" (group)"))
        self.accepted(query("(n true) (m p.true)", more=" (where false)"))
        self.accepted(query("(n true.a)", "(true t)"))

    def test_names_that_look_like_words(self):
        text = ("(select (items (items from.where) (select from.group) (up (count)) (sum (sum from.limit)))"
                " (from (from from) (order order:limit)) (where (same from.select 'where')) (group from.where from.group)"
                " (order (up up) (down items)) (limit 5))")
        made = self.accepted(text)
        self.assertEqual(made.sources(), [("from", "from"), ("order", "order:limit")])
        self.assertEqual(made.orders(), [("up", True), ("items", False)])
        self.assertEqual([item[0] for item in made.item_list()], ["items", "select", "up", "sum"])

    def test_strings_that_look_like_parts(self):
        text = query("(n ') (from (p t))') (m '(count)')", more=" (where (same p.a ' (limit 5))'))")
        made = self.accepted(text)
        self.assertEqual(made.item_list()[1], ("m", "value", Expression("'(count)'")))
        self.assertIsNone(made.most_rows())
        self.accepted(query("(n '  ')"))

    def test_one_sign_changed(self):
        """Each sign of a query left out, doubled or put at the end."""
        text = "(select (items (n (add p.aa 11))) (from (p wa:aa)) (where (same p.b 'x')) (limit 10))"
        for at in range(len(text)):
            if text[at] in "()' .":
                self.refused(text[:at] + text[at + 1:])
                self.refused(text[:at] + text[at] + text[at:])
                self.refused(text + text[at])
        for word in ("select", "items", "from", "where", "limit", "add", "same"):
            for at in range(len(word)):
                self.refused(text.replace(f"({word} ", f"({word[:at] + word[at + 1:]} "))
                self.refused(text.replace(f"({word} ", f"({word[:at] + word[at:at + 1] + word[at:]} "))

    def test_nearly(self):
        wrong = ["", " ", "()", "(select)", "select", PLAIN + " ", " " + PLAIN, PLAIN[:-1], PLAIN + ")", PLAIN[1:-1]]
        wrong += [f"({PLAIN})", PLAIN.replace("select", "SELECT"), PLAIN.replace("select", "'select'"), "'" + PLAIN + "'"]
        wrong += [PLAIN.replace(") (from", ")  (from"), PLAIN.replace("(from ", "(from  "), "(" * 1200 + ")" * 1200]
        wrong += [PLAIN.replace("select", "(select)"), PLAIN.replace("(select ", "("), PLAIN[:-1] + " limit 5)"]
        wrong += [PLAIN[:-1] + " (having true))", PLAIN[:-1] + " ())", PLAIN[:-1] + " 'a')", "(" * 1200]
        for text in wrong:
            self.refused(text)

    def test_bounds_of_expressions(self):
        deep = "(not " * 7 + "p.b" + ")" * 7
        self.accepted(query(f"(n {deep})"))
        self.accepted(query("(n (least (not " + "(not " * 6 + "(none truth)" + ")" * 7 + "))", more=" (group)"))
        self.refused(query(f"(n (not {deep}))"))
        self.refused(query("(n p.abcdefghi)"))
        self.refused(query("(n " + "9" * 31 + ")"))

    def test_no_string(self):
        for given in every_kind():
            if not isinstance(given, str):
                self.assertEqual(error_of(Query, given), ("InvalidText", "string"))
        self.assertEqual(error_of(Query, Query(PLAIN)), ("InvalidText", "string"))

    def test_equality(self):
        self.assertEqual(Query(PLAIN), Query(PLAIN))
        self.assertNotEqual(Query(PLAIN), Query(FULL))
        for other in (PLAIN, None, 1, Label(), Expression("a"), object()):
            self.assertIs(Query(PLAIN) == other, False)

    def test_new_lists(self):
        made = Query(FULL)
        for method in (made.sources, made.item_list, made.groups, made.orders):
            before = method()
            method().append(None)
            method().clear()
            self.assertEqual(method(), before)


class ColumnsTest(unittest.TestCase):
    def test_sorts(self):
        self.assertEqual(unchanged(self, Query(PLAIN).columns_in, SOURCES), [("n", "text")])
        expected = [("n", "text"), ("c", "int"), ("s", "int"), ("l", "int"), ("g", "text")]
        self.assertEqual(Query(FULL).columns_in(sources=SOURCES), expected)
        self.assertEqual(Query(FULL).columns_in(SOURCES), expected)
        Query(FULL).columns_in(SOURCES).clear()
        items = "(a 1) (b 'x') (c true) (d p.ill) (e (none text)) (f (size p.name))"
        expected = [("a", "int"), ("b", "text"), ("c", "truth"), ("d", "truth"), ("e", "text"), ("f", "int")]
        self.assertEqual(Query(query(items)).columns_in(SOURCES), expected)
        self.assertEqual(exact(Query(query(items)).columns_in(SOURCES))[0], "list")

    def test_sorts_of_grouped_items(self):
        for word, of_int, of_text in (("sum", "int", None), ("least", "int", "text"), ("greatest", "int", "text")):
            for column, sort in (("p.age", of_int), ("p.name", of_text), ("p.ill", None)):
                made = Query(query(f"(n ({word} {column}))", more=" (group)"))
                expected = ("error", ("WrongSort", ("items", 0))) if sort is None else ("done", [("n", sort)])
                self.assertEqual(end_of(made.columns_in, SOURCES), expected)
        self.assertEqual(Query(query("(n (count))", more=" (group)")).columns_in(SOURCES), [("n", "int")])

    def test_lists_and_tuples_of_columns(self):
        for columns in ([("a", "int", False), ("b", "text", True)], (("a", "int", False), ("b", "text", True))):
            made = Query(query("(x p.a) (y p.b)"))
            self.assertEqual(made.columns_in({"ward": columns, "other": ()}), [("x", "int"), ("y", "text")])

    def test_one_source_twice(self):
        made = Query(query("(x p.age) (y q.name)", "(p ward) (q ward)", " (where (same p.name q.name))"))
        self.assertEqual(made.columns_in(SOURCES), [("x", "int"), ("y", "text")])

    def test_unknown_sources(self):
        made = Query(query("(n (add p.x 'a'))", "(p ward) (q bed) (r cot)", " (where 5)"))
        self.assertEqual(error_of(made.columns_in, {}), ("UnknownSource", "ward"))
        self.assertEqual(error_of(made.columns_in, SOURCES), ("UnknownSource", "bed"))
        self.assertEqual(error_of(made.columns_in, {"ward": [], "bed": []}), ("UnknownSource", "cot"))
        self.assertEqual(error_of(made.columns_in, {"ward": [], "bed": [], "cot": []}), ("WrongSort", ("where", 0)))
        self.assertEqual(error_of(Query(query(sources="(p ward:a)")).columns_in, SOURCES), ("UnknownSource", "ward:a"))

    def told(self, items, more, expected):
        made = Query(query(items, more=more))
        self.assertEqual(error_of(made.columns_in, SOURCES), expected, made)
        self.assertEqual(error_of(made.columns_in, SOURCES), expected)

    def test_where(self):
        self.told("(n 1)", " (where 1)", ("WrongSort", ("where", 0)))
        self.told("(n 1)", " (where p.age)", ("WrongSort", ("where", 0)))
        self.told("(n 1)", " (where (not (size p.age)))", ("WrongSort", ("where", 0, 0)))
        self.told("(n 1)", " (where (and p.ill (less p.age (add 1 p.name))))", ("WrongSort", ("where", 0, 1, 1)))
        self.told("(n 1)", " (where (size p.x))", ("UnknownColumn", "p.x"))
        self.told("(n 1)", " (where (size p.name))", ("WrongSort", ("where", 0)))
        self.told("(n 1)", " (where p.ill)", None)
        self.told("(n 1)", " (where (none truth))", None)

    def test_group(self):
        self.told("(n (count))", " (group p.name (not p.age) p.x)", ("WrongSort", ("group", 1)))
        self.told("(n (count))", " (group p.name p.age (not (size 1)))", ("WrongSort", ("group", 2, 0)))
        self.told("(n (count))", " (group p.name p.x (size 1))", ("UnknownColumn", "p.x"))
        self.told("(n (count))", " (group p.name p.age p.ill 5)", None)

    def test_items(self):
        self.told("(n p.name) (m (add p.age 'a'))", "", ("WrongSort", ("items", 1)))
        self.told("(n p.name) (m (add (size p.age) 'a'))", "", ("WrongSort", ("items", 1, 0)))
        self.told("(n p.name) (m p.x)", "", ("UnknownColumn", "p.x"))
        self.told("(n (size p.age)) (m p.x)", "", ("WrongSort", ("items", 0)))
        for word, wrong in (("sum", "p.name"), ("sum", "p.ill"), ("least", "p.ill"), ("greatest", "true")):
            self.told(f"(c (count)) (n ({word} {wrong}))", " (group)", ("WrongSort", ("items", 1)))
            self.told(f"(c (count)) (n ({word} (size {wrong})))", " (group)",
                      None if wrong == "p.name" else ("WrongSort", ("items", 1, 0)))
        self.told("(n (sum (add p.age (size 5))))", " (group)", ("WrongSort", ("items", 0, 0, 1)))
        self.told("(n (least p.x))", " (group)", ("UnknownColumn", "p.x"))

    def test_sequence(self):
        bad = "(size 1)"
        self.told(f"(n {bad}) (m (sum {bad}))", f" (where {bad}) (group {bad})", ("WrongSort", ("where", 0)))
        self.told(f"(n {bad}) (m (sum {bad}))", f" (where true) (group {bad})", ("WrongSort", ("group", 0)))
        self.told(f"(m (sum {bad}))", " (where true) (group 1)", ("WrongSort", ("items", 0, 0)))
        self.told("(n p.y) (m (sum p.x))", " (where p.w) (group p.y)", ("UnknownColumn", "p.w"))
        self.told("(n p.y) (m (sum p.x))", " (where 1) (group p.y)", ("WrongSort", ("where", 0)))
        self.told("(n p.y) (m (sum p.x))", " (where true) (group p.y)", ("UnknownColumn", "p.y"))
        self.told("(m (sum p.x)) (n (count))", " (group 1)", ("UnknownColumn", "p.x"))


class BoundTest(unittest.TestCase):
    def test_each_source(self):
        sources = ["(p ward)", "(q bed)", "(r ward:a)", "(s cot)"]
        made = Query(query("(n 'ward')", " ".join(sources), " (where (same p.ward 'bed')) (order (up n)) (limit 3)"))
        before = made.text
        for chosen in range(16):
            names = ["ward", "bed", "ward:a", "cot"]
            leads = {name: f"new{chr(97 + at)}:a+b" for at, name in enumerate(names) if chosen >> at & 1}
            expected = [(alias, leads.get(name, name)) for alias, name in zip("pqrs", names)]
            bound = unchanged(self, made.bound, leads)
            self.assertIsInstance(bound, Query)
            self.assertEqual(bound.sources(), expected)
            self.assertEqual(bound.where(), made.where())
            self.assertEqual(bound.orders(), made.orders())
            self.assertEqual(bound.most_rows(), 3)
            self.assertEqual(made.text, before)
        self.assertEqual(
            made.bound(sources={"ward": "ward:-"}).text, before.replace("(p ward)", "(p ward:-)"))
        self.assertEqual(made.bound({}), made)

    def test_one_source_twice_and_in_turn(self):
        made = Query(query("(n 1)", "(p a) (q b) (r a)"))
        self.assertEqual(made.bound({"a": "b", "b": "a"}).sources(), [("p", "b"), ("q", "a"), ("r", "b")])
        self.assertEqual(made.bound({"a": "a:-"}).bound({"a:-": "c"}).sources(), [("p", "c"), ("q", "b"), ("r", "c")])

    def test_with_all_parts(self):
        self.assertEqual(
            Query(FULL).bound({"ward:-": "x", "bed:a+b": "y:-"}).text,
            FULL.replace("ward:-", "x").replace("bed:a+b", "y:-"))

    def test_invalid_sources(self):
        made = Query(query("(n 1)", "(p a) (q b:-) (r c)"))
        sources = ("a", "b:-", "c")
        for wrong in every_kind():
            if isinstance(wrong, str) and (wrong.isalpha() and wrong.islower() and len(wrong) < 9 or wrong == "a:-"):
                self.assertEqual(made.bound({"a": wrong}).sources()[0], ("p", wrong))
                continue
            for at, source in enumerate(sources):
                leads = {"c": "(", "z": wrong, "b:-": ")", "a": "1"}
                leads = {key: lead for key, lead in leads.items() if key not in sources[:at]}
                leads[source] = wrong
                word, told = end_of(made.bound, leads)
                self.assertEqual((word, told[0]), ("error", "InvalidSource"))
                self.assertIs(told[1], wrong)

    def test_other_keys_are_not_looked_at(self):
        made = Query(query("(n 1)", "(p a)"))
        for key in ("b", "a:-", 1, None, ("a",), True, "A b"):
            for lead in ("A", 5, None, Odd(), []):
                self.assertEqual(made.bound({key: lead, "a": "d"}).sources(), [("p", "d")])


if __name__ == "__main__":
    unittest.main()
