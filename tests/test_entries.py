import itertools
import unittest

from aboveless.entries import Check, Entry, Index, Reference, Right, Table, View, entry_of
from aboveless.labels import Label
from aboveless.queries import Query
from tests.helpers import Odd, end_of, error_of, every_kind, exact, unchanged

QUERY = "(select (items (n p.name)) (from (p ward) (q bed:a) (r ward)))"
COLUMNS = [("name", "text", False), ("age", "int", True), ("ill", "truth", False)]
NAMES = ("a", "b", "true", "int", "text", "empty", "abcdefgh", "gone")
SOURCES = NAMES + ("a:-",)
RULES = ("restrict", "cascade", "empty")


def samples():
    """An entry of each kind, and what it tells."""
    return [
        (Table("ward", COLUMNS), ("table", "ward", tuple(COLUMNS))),
        (View("old", QUERY), ("view", "old", QUERY)),
        (Check("adult", "ward:-", "(less 17 age)"), ("check", "adult", "ward:-", "(less 17 age)")),
        (Reference("inbed", "ward", "bed", "bed:a+b"), ("reference", "inbed", "ward", "bed", "bed:a+b", "restrict")),
        (Index("byage", "ward", "age"), ("index", "byage", "ward", "age")),
        (Right("nurse", "ann", "a"), ("right", "nurse", "ann", "a")),
    ]


class KindsTest(unittest.TestCase):
    def test_kinds(self):
        kinds = {Table: "table", View: "view", Check: "check", Reference: "reference", Index: "index", Right: "right"}
        for made, kind in kinds.items():
            self.assertEqual(made.KIND, kind)
            self.assertEqual(made.__bases__, (Entry,))
            for method in ("sources", "bound", "told"):
                self.assertIn(method, vars(made))

    def test_told_and_name(self):
        for entry, told in samples():
            self.assertEqual(exact(entry.told()), exact(told))
            self.assertEqual(exact(entry.told()), exact(told))
            self.assertEqual(entry.name, told[1])
            self.assertEqual(entry.KIND, told[0])

    def test_by_name(self):
        self.assertEqual(Table(columns=COLUMNS, name="ward").told(), ("table", "ward", tuple(COLUMNS)))
        self.assertEqual(View(query=QUERY, name="old").told(), ("view", "old", QUERY))
        self.assertEqual(Check(condition="true", table="t", name="c").told(), ("check", "c", "t", "true"))
        reference = Reference(rule="empty", target="u:-", column="k", table="t", name="r")
        self.assertEqual(reference.told(), ("reference", "r", "t", "k", "u:-", "empty"))
        self.assertEqual(Index(column="k", table="t", name="i").told(), ("index", "i", "t", "k"))
        self.assertEqual(Right(mark="m", user="u", name="r").told(), ("right", "r", "u", "m"))

    def test_rule_is_passed_by_name_only(self):
        with self.assertRaises(TypeError):
            Reference("r", "t", "k", "u", "empty")
        for rule in RULES:
            self.assertEqual(Reference("r", "t", "k", "u", rule=rule).told()[5], rule)

    def test_sources(self):
        expected = [[], ["ward", "bed:a", "ward"], ["ward:-"], ["ward", "bed:a+b"], ["ward"], []]
        for (entry, _), sources in zip(samples(), expected):
            self.assertEqual(exact(entry.sources()), exact(sources))
            entry.sources().append("x")
            self.assertEqual(entry.sources(), sources)
        self.assertEqual(Reference("r", "t", "k", "t").sources(), ["t", "t"])

    def test_equality(self):
        for (one, told), (two, other) in itertools.product(samples(), repeat=2):
            self.assertIs(one == two, told == other)
            self.assertIs(one != two, told != other)
        for entry, told in samples():
            for value in (told, list(told), told[1], None, 1, Label(), object()):
                self.assertIs(entry == value, False)
        self.assertNotEqual(Table("a", COLUMNS), Table("b", COLUMNS))
        self.assertNotEqual(Table("a", COLUMNS), Table("a", COLUMNS[:2]))
        self.assertNotEqual(Table("a", [("k", "int", False), ("v", "int", True)]),
                            Table("a", [("k", "int", False), ("v", "int", False)]))
        self.assertNotEqual(Reference("r", "t", "k", "u"), Reference("r", "t", "k", "u", rule="empty"))
        self.assertNotEqual(Index("x", "y", "z"), Right("x", "y", "z"))
        self.assertEqual(Reference("r", "t", "k", "u"), Reference("r", "t", "k", "u", rule="restrict"))


class TableTest(unittest.TestCase):
    def told(self, columns, position):
        word, told = end_of(Table, "a", columns)
        self.assertEqual((word, exact(told)), ("error", exact(("InvalidColumns", position))), repr(columns))

    def test_lists_and_tuples(self):
        for columns in (COLUMNS, tuple(COLUMNS)):
            table = unchanged(self, lambda given: Table("a", given), columns)
            self.assertEqual(exact(table.told()), exact(("table", "a", tuple(COLUMNS))))

    def test_later_changes_have_no_effect(self):
        columns = list(COLUMNS)
        table = Table("a", columns)
        columns.pop()
        columns[0] = ("key", "int", False)
        self.assertEqual(table.told()[2], tuple(COLUMNS))

    def test_one_to_six(self):
        columns = [(letter, "int", False) for letter in "abcdefgh"]
        for many in range(9):
            if 1 <= many <= 6:
                self.assertEqual(Table("t", columns[:many]).told()[2], tuple(columns[:many]))
            else:
                self.told(columns[:many], None)
                self.told(tuple(columns[:many]), None)
        self.told(columns[:6] + [None], None)

    def test_no_list(self):
        for value in every_kind():
            if not isinstance(value, (list, tuple)):
                self.told(value, None)
        self.told({"a": 1}, None)
        self.told("abc", None)
        self.told([], None)

    def test_wrong_columns(self):
        wrong = [None, (), 1, "abc", ["age", "int", True], ("age", "int"), ("age", "int", True, True), ("Age", "int", True)]
        wrong += [("age", "Int", True), ("age", "int", 1), ("age", "int", 0), ("age", "int", None), ("age", None, True)]
        wrong += [(None, "int", True), ("age", ["int"], True), (["age"], "int", True), ("age", "int", "true")]
        wrong += [(Odd(), "int", True), ("age", Odd(), True), ("age", "int", Odd()), Odd(), ("abcdefghi", "int", True)]
        good = [("key", "int", False), ("b", "text", True), ("c", "truth", True), ("d", "int", False)]
        for column in wrong:
            for at in range(4):
                columns = list(good)
                columns[at] = column
                self.told(columns, at)
                self.told(tuple(columns), at)
                self.told(columns[:at] + [column] * 2, at)

    def test_key_column(self):
        for sort, may_be_empty in itertools.product(("int", "text", "truth"), (True, False)):
            columns = [("key", sort, may_be_empty), ("other", sort, may_be_empty)]
            if sort != "truth" and not may_be_empty:
                self.assertEqual(Table("t", columns).told()[2], tuple(columns))
            else:
                self.told(columns, 0)
                self.told(columns + [None], 0)

    def test_different_names(self):
        columns = [("a", "int", False), ("b", "int", False), ("c", "text", True)]
        self.told(columns + [("b", "text", True)], 3)
        self.told(columns + [("a", "int", False), ("b", "int", False)], 3)
        self.told([columns[0]] * 2 + [None], 1)


class ArgumentsTest(unittest.TestCase):
    # the error, a right argument, a wrong one, and all right ones among those of every kind
    NAME = ("InvalidName", "a", "A", NAMES)
    SOURCE = ("InvalidSource", "t:a+b", "t:", SOURCES)

    def check(self, make, parameters):
        """Each argument wrong, with those behind it right and wrong: the first wrong one decides."""
        for at, (error, _, _, rights) in enumerate(parameters):
            before = [part[1] for part in parameters[:at]]
            right_behind = [part[1] for part in parameters[at + 1:]]
            wrong_behind = [part[2] for part in parameters[at + 1:]]
            for given in every_kind():
                if isinstance(given, str) and given in rights:
                    self.assertIsNone(error_of(make, *before, given, *right_behind))
                    continue
                for behind in (right_behind, wrong_behind):
                    word, told = end_of(make, *before, given, *behind)
                    self.assertEqual((word, told[0]), ("error", error))
                    if error not in ("InvalidText", "InvalidColumns"):
                        self.assertIs(told[1], given)

    def test_table(self):
        self.check(Table, [self.NAME, ("InvalidColumns", COLUMNS, None, ())])

    def test_view(self):
        self.check(View, [self.NAME, ("InvalidText", QUERY, "A", ())])
        self.assertEqual(error_of(View, "v", None), ("InvalidText", "string"))
        self.assertEqual(error_of(View, "v", Query(QUERY)), ("InvalidText", "string"))
        self.assertEqual(error_of(View, "v", QUERY[:-1]), ("InvalidText", "query"))

    def test_check(self):
        self.check(Check, [self.NAME, self.SOURCE, ("InvalidText", "a", "A", NAMES + ("1", "'a'"))])
        self.assertEqual(error_of(Check, "c", "t", 1), ("InvalidText", "string"))
        self.assertEqual(error_of(Check, "c", "t", b"a"), ("InvalidText", "string"))
        for text in ("", "(less 1)", "A", "p.a", "(and a p.a)", "(and p.a b)", "t.a", "(filled (cat a t.b))"):
            self.assertEqual(error_of(Check, "c", "t", text), ("InvalidText", "expression"), text)
        for text in ("a", "true", "5", "(less a 'p.a')", "'p.a'", "(filled a)"):
            self.assertEqual(Check("c", "t", text).told(), ("check", "c", "t", text))

    def test_reference(self):
        self.check(Reference, [self.NAME, self.SOURCE, self.NAME, self.SOURCE])

        def with_rule(name, table, column, target, rule):
            return Reference(name, table, column, target, rule=rule)

        self.check(with_rule, [self.NAME, self.SOURCE, self.NAME, self.SOURCE, ("InvalidRule", "cascade", "drop", RULES)])

    def test_index(self):
        self.check(Index, [self.NAME, self.SOURCE, self.NAME])

    def test_right(self):
        self.check(Right, [self.NAME, self.NAME, self.NAME])


class BoundTest(unittest.TestCase):
    LEADS = {"ward": "ward:-", "bed:a": "cot:a+b", "bed:a+b": "bed:-", "ward:-": "other", "name": "x", "age": "y"}

    def test_bound(self):
        query = QUERY.replace("(p ward)", "(p ward:-)").replace("(r ward)", "(r ward:-)").replace("bed:a", "cot:a+b")
        expected = [
            ("table", "ward", tuple(COLUMNS)), ("view", "old", query), ("check", "adult", "other", "(less 17 age)"),
            ("reference", "inbed", "ward:-", "bed", "bed:-", "restrict"), ("index", "byage", "ward:-", "age"),
            ("right", "nurse", "ann", "a"),
        ]
        for (entry, told), bound in zip(samples(), expected):
            self.assertEqual(unchanged(self, entry.bound, self.LEADS).told(), bound)
            self.assertEqual(entry.bound(sources=self.LEADS).told(), bound)
            self.assertEqual(entry.told(), told)
            self.assertEqual(entry.bound({}), entry)
            self.assertEqual(entry.bound({"x": 5, 1: None}), entry)
            self.assertEqual(entry.bound(self.LEADS).__class__, entry.__class__)

    def test_rule_is_kept(self):
        for rule in RULES:
            reference = Reference("r", "t", "k", "u", rule=rule).bound({"t": "u", "u": "t"})
            self.assertEqual(reference.told(), ("reference", "r", "u", "k", "t", rule))

    def test_invalid_sources(self):
        made = [View("v", "(select (items (n 1)) (from (p t) (q u)))"), Check("c", "t", "true")]
        made += [Reference("r", "t", "k", "u"), Index("i", "t", "k")]
        for entry in made:
            for wrong in every_kind():
                if isinstance(wrong, str) and wrong in SOURCES:
                    continue
                for leads in ({"t": wrong, "u": 5, "k": 6}, {"u": 5, "t": wrong}, {"t": wrong}):
                    word, told = end_of(entry.bound, leads)
                    self.assertEqual((word, told[0]), ("error", "InvalidSource"))
                    self.assertIs(told[1], wrong)
                if len(entry.sources()) == 2:
                    word, told = end_of(entry.bound, {"t": "a", "u": wrong})
                    self.assertEqual((word, told[0]), ("error", "InvalidSource"))
                    self.assertIs(told[1], wrong)
                self.assertEqual(entry.bound({"k": wrong, "n": wrong}), entry)

    def test_tables_and_rights_look_at_nothing(self):
        for entry in (Table("t", COLUMNS), Right("r", "t", "u")):
            self.assertEqual(entry.bound({"t": 5, "u": None, "ward": "A"}), entry)


class EntryOfTest(unittest.TestCase):
    def refused(self, value):
        word, told = end_of(entry_of, value)
        self.assertEqual((word, told[0]), ("error", "InvalidEntry"), value if isinstance(value, tuple) else type(value))
        self.assertIs(told[1], value)

    def test_there_and_back(self):
        for entry, told in samples():
            self.assertEqual(entry_of(told), entry)
            self.assertEqual(entry_of(told=entry.told()).told(), told)
            self.assertIsInstance(entry_of(told), entry.__class__)
        for rule in RULES:
            told = ("reference", "r", "t", "k", "u", rule)
            self.assertEqual(entry_of(told).told(), told)

    def test_other_values(self):
        for value in every_kind():
            self.refused(value)

    def test_nearly(self):
        for entry, told in samples():
            self.refused(list(told))
            self.refused(told + (None,))
            self.refused(told + ("a",))
            self.refused(told[:-1])
            self.refused((told,))
            self.refused(entry)
            self.refused((told[0].upper(),) + told[1:])
            for kind in ("table", "view", "check", "reference", "index", "right", "", "entry"):
                if kind != told[0] and not (told[0] in ("index", "right", "check") and kind in ("index", "right", "check")):
                    self.refused((kind,) + told[1:])
            for at in range(len(told)):
                for wrong in every_kind():
                    if at > 0 and isinstance(wrong, str) and (wrong in SOURCES or told[0] == "check" and at == 3):
                        continue
                    self.refused(told[:at] + (wrong,) + told[at + 1:])

    def test_kinds_of_the_same_size(self):
        self.assertEqual(entry_of(("index", "a", "b", "c")), Index("a", "b", "c"))
        self.assertEqual(entry_of(("right", "a", "b", "c")), Right("a", "b", "c"))
        self.assertEqual(entry_of(("check", "a", "b", "c")), Check("a", "b", "c"))
        self.refused(("right", "a", "b:-", "c"))
        self.refused(("check", "a", "b", "p.c"))
        self.refused(("view", "a", tuple(COLUMNS)))

    def test_columns(self):
        self.refused(("table", "a", list(COLUMNS)))
        self.refused(("table", "a", tuple(list(column) for column in COLUMNS)))
        self.refused(("table", "a", ()))
        self.refused(("table", "a", (("k", "int", 0),)))
        self.refused(("table", "a", (("k", "int", True),)))
        self.refused(("table", "a", COLUMNS[0]))


if __name__ == "__main__":
    unittest.main()
