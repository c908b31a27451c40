"""[32]: lines, their answers, their errors, and texts that are no lines."""

import unittest

from aboveless.desk import Desk
from tests.helpers import error_of, every_kind, exact
from tests.samples import LOW
from tests.test_releases import ASKED, DeskCase

Q = "(select (items (k x.k) (n x.n)) (from (x t)))"
DEEP = "(select (items (c {0})) (from (x t)) (group))"


def nested(depth):
    """A text in parentheses that is nested so deep."""
    return "(" * depth + "a" + ")" * depth


class FormTest(DeskCase):
    def setUp(self):
        self.made = self.desk(("low", "(insert t 'x' 1)"))

    def is_line(self, *texts):
        for text in texts:
            self.assertNotEqual(self.made.line("ann", text), "InvalidLine", text)

    def is_none(self, *texts):
        before = self.state(self.made)
        for text in texts:
            for user in ("ann", "bob"):
                self.assertEqual(self.made.line(user, text), "InvalidLine", text)
        self.assertEqual(self.state(self.made), before)

    def test_no_strings(self):
        for value in every_kind():
            if not isinstance(value, str):
                self.is_none(value)

    def test_no_commands(self):
        self.is_none("", " ", "()", "x", "suspended", "'suspended'", "(x)", "(suspend)", "(Suspended)", "(SUSPENDED)", "('suspended')",
                     "((suspended))", "(select (items (k x.k)) (from (x t)))", "(row 'x')", "(define t)", "(memo v)", "(crash)",
                     "(count)", "(ask", "ask x)", "(suspended))", "((suspended)", "(suspended)(suspended)", "(suspended) (suspended)")

    def test_spaces(self):
        for text in ("(suspended)", "(ask x)", "(insert t 'y' 1)", "(change t 'x' (n 1))", "(compact 1)"):
            self.is_none(" " + text, text + " ", text.replace("(", "( "), text.replace(")", " )"))
            if " " in text:
                self.is_none(text.replace(" ", "  "), text.replace(" ", "\n", 1), text.replace(" ", "\t", 1), text.replace(" ", ",", 1))
        self.is_line("(insert t 'y   z' 1)", "(insert t '  ' 1)", "(insert t ' (x) ' 1)")
        self.is_none("(change t 'x' (n 1)(k 2))", "(insert t'y' 1)", "(insert t 'y'1)")

    def test_parts_left_out_or_too_many(self):
        whole = {
            "insert": "t", "change": "t 'x'", "remove": "t 'x'", "revert": "t 'x'", "view": "v x", "check": "c t x",
            "reference": "r t n t x", "index": "i t n", "right": "r u m", "drop": "x n", "ask": "x", "measure": "x", "within": "1 x",
            "explain": "x", "why": "1 x", "suspended": "", "begin": "", "commit": "", "abandon": "", "refresh": "v", "forget": "v",
            "flush": "", "compact": "1", "confirm": "0", "offer": "t - (row)", "table": "u (k text filled)",
        }
        for word, rest in whole.items():
            parts = rest.split(" ") if word not in ("offer", "table") else [rest[:rest.index("(") - 1], rest[rest.index("("):]]
            self.is_line(f"({' '.join([word] + [part for part in parts if part])})")
            for many in range(len(parts)):
                if rest:
                    self.is_none(f"({' '.join([word] + parts[:many])})")
            if word not in ("insert", "change", "offer", "table"):
                self.is_none(f"({' '.join([word] + [part for part in parts if part] + ['x'])})")
                self.is_none(f"({' '.join([word] + [part for part in parts if part] + ['(n 1)'])})")

    def test_sources(self):
        for text in ("t", "t:-", "t:a+b", "q:zz+zzz"):
            self.is_line(f"(insert {text} 1)", f"(check c {text} x)", f"(refresh {text})", f"(offer {text} - (row))")
        for text in ("T", "'t'", "(t)", "1", "t:", ":a", "t:b+a", "t:a+a", "t.a", "abcdefghi", "t:-:-", "empty1", "t:A"):
            self.is_none(f"(insert {text} 1)", f"(change {text} 1)", f"(remove {text} 1)", f"(revert {text} 1)", f"(check c {text} x)",
                         f"(reference r {text} n t x)", f"(reference r t n {text} x)", f"(index i {text} n)", f"(refresh {text})",
                         f"(forget {text})", f"(offer {text} - (row))")

    def test_names(self):
        for text in ("N", "'n'", "(n)", "1", "n:-", "x.n", "abcdefghi", "n1", "n_"):
            self.is_none(f"(table {text} (k text filled))", f"(view {text} x)", f"(check {text} t x)", f"(reference {text} t n t x)",
                         f"(index {text} t n)", f"(right {text} u m)", f"(drop index {text})", f"(change t 'x' ({text} 1))",
                         f"(table u ({text} text filled))", f"(reference r t {text} t x)", f"(index i t {text})",
                         f"(right r {text} m)", f"(right r u {text})")

    def test_values(self):
        for text in ("1", "-1", "0", "9" * 30, "'x'", "''", f"'{'x' * 60}'", "true", "false", "empty"):
            self.is_line(f"(insert t 'y' {text})", f"(change t 'x' (n {text}))", f"(offer t - (row {text}))")
        for text in ("x", "01", "-0", "+1", "1.0", "9" * 31, f"'{'x' * 61}'", "none", "None", "True", "(none int)", "(1)", "\"x\"", "--1", "1-"):
            self.is_none(f"(insert t 'y' {text})", f"(insert t {text} 1)", f"(change t 'x' (n {text}))", f"(offer t - (row {text}))")

    def test_keys(self):
        for text in ("1", "-1", "'x'", "''"):
            self.is_line(f"(change t {text})", f"(remove t {text})", f"(revert t {text})")
        for text in ("true", "false", "empty", "x", "01", "(1)"):
            self.is_none(f"(change t {text})", f"(remove t {text})", f"(revert t {text})")

    def test_counts(self):
        for text in ("0", "1", "20", "9" * 30):
            self.is_line(f"(within {text} x)", f"(why {text} x)", f"(compact {text})", f"(confirm {text})")
        for text in ("-1", "-0", "00", "01", "x", "'1'", "(1)", "9" * 31, "+1", "1.0", "empty", "true"):
            self.is_none(f"(within {text} x)", f"(why {text} x)", f"(compact {text})", f"(confirm {text})")

    def test_labels(self):
        for text in ("-", "a", "a+b", "zz"):
            self.is_line(f"(offer t {text} (row))")
        for text in ("b+a", "a+a", "A", "'a'", "(a)", "a+", "a+b+c+d+e", "1"):
            self.is_none(f"(offer t {text} (row))")

    def test_words(self):
        for text in ("x", "table", "1", "x.y", "t:-", "a+b", "-", "X&#", "true"):
            self.is_line(f"(drop {text} n)", f"(reference r t n t {text})")
        for text in ("'x'", "(x)", "'table'", "()"):
            self.is_none(f"(drop {text} n)", f"(reference r t n t {text})")

    def test_single_parts(self):
        for text in ("x", "'x'", "'(x y)'", "(x)", "()", "1", nested(12), "(x (y) 'z')"):
            self.is_line(f"(ask {text})", f"(measure {text})", f"(within 1 {text})", f"(explain {text})", f"(why 1 {text})",
                         f"(view v {text})", f"(check c t {text})")

    def test_nesting(self):
        self.is_line(f"(ask {nested(12)})", f"(check c t {nested(12)})")
        self.is_none(f"(ask {nested(13)})", f"(check c t {nested(13)})", nested(13), nested(20), f"(ask {nested(2000)})")
        # the deepest query: seven operations around an empty value within a sum, thirteen in all
        text = "(none int)"
        for _ in range(7):
            text = f"(add 1 {text})"
        self.says(self.made, "low", f"(ask {DEEP.format(f'(sum {text})')})", "(0)")
        self.is_none(f"(ask {DEEP.format(f'(sum (add 1 {text}))')})")

    def test_columns_of_a_change(self):
        self.is_line("(change t 'x' (n 1) (k 2) (m 3))")
        self.is_none("(change t 'x' (n 1) (n 1))", "(change t 'x' (n 1) (k 2) (n 3))", "(change t 'x' (n))", "(change t 'x' (n 1 2))",
                     "(change t 'x' n)", "(change t 'x' (n 1) 5)", "(change t 'x' ())", "(change t 'x' ((n) 1))")

    def test_columns_of_a_table(self):
        columns = [f"({name} int maybe)" for name in "klmnopq"]
        for many in range(1, 7):
            self.is_line(f"(table u {' '.join(columns[:many])})")
        self.is_none("(table u)", f"(table u {' '.join(columns)})", "(table u (k text))", "(table u (k text filled x))", "(table u k)",
                     "(table u (k Text filled))", "(table u (k string filled))", "(table u (k text full))", "(table u (k 'text' filled))",
                     "(table u (k text 'filled'))", "(table u (k text filled) (n int))", "(table u (k text filled) ())")

    def test_rows_of_an_offer(self):
        for many in range(1, 7):
            self.is_line(f"(offer t - {' '.join(['(row 1)'] * many)})")
        self.is_line("(offer t - (row))", "(offer t - (row 1 2 3 4 5 6 7 8 9))")
        self.is_none("(offer t -)", f"(offer t - {' '.join(['(row 1)'] * 7)})", "(offer t - row)", "(offer t - (1))", "(offer t - ())",
                     "(offer t - ('row' 1))", "(offer t - (Row 1))", "(offer t - (row 1) 2)", "(offer t - (row (1)))")

    def test_no_lines_within_a_transaction(self):
        self.says(self.made, "ann", "(begin)", "-")
        self.is_none("(commit 1)", "commit", "(insert t x)")
        self.says(self.made, "ann", "(commit)", "0")


class AnswerTest(DeskCase):
    def test_writes(self):
        desk = self.desk()
        for user, text, answer in (
            ("low", "(insert t 'x' 1)", "'x'"), ("low", "(insert t 'a b' empty)", "'a b'"), ("ann", "(insert t empty 2)", "'a.0.0'"),
            ("low", "(table u (k int filled) (p text maybe) (b truth maybe))", "-"), ("low", "(insert u -5 'x' true)", "-5"),
            ("low", "(insert u 0 empty false)", "0"), ("low", "(reference r u p t cascade)", "-"), ("low", "(change u 0 (p 'x') (b true))", "-"),
            ("low", "(change u 0)", "-"), ("ann", "(remove t 'x')", "(t:- 'x') (u:- -5) (u:- 0)"), ("ann", "(revert u 0)", "WouldSuspend u:- 0"),
            ("ann", "(revert t 'x')", "-"), ("ann", "(revert u 0)", "-"), ("low", "(check c t (less n 9))", "-"),
            ("low", f"(view v {Q})", "-"), ("ann", "(index i t:- n)", "-"), ("ann", "(right r bob a)", "-"), ("ann", "(drop index i)", "-"),
            ("ann", "(ask (select (items (k x.k) (p x.p) (b x.b)) (from (x u))))", "(0 'x' true)"),
            ("ann", "(ask (select (items (c (count)) (e (least x.p))) (from (x u)) (where false) (group)))", "(0 empty)"),
        ):
            self.says(desk, user, text, answer)

    def test_queries(self):
        desk = self.desk(("low", "(insert t 'x' 1)"), ("low", "(insert t 'y' empty)"))
        empty = "(select (items (k x.k)) (from (x t)) (where false))"
        some = "(select (items (k x.k)) (from (x t)) (where (same x.n 1)))"
        group = "(select (items (c (count))) (from (x t)) (where {0}) (group))"
        for text, answer in (
            (f"(ask {Q})", "('x' 1) ('y' empty)"), (f"(ask {empty})", "-"), (f"(measure {Q})", "2 ('x' 1) ('y' empty)"),
            (f"(measure {some})", "2 ('x')"), (f"(measure {empty})", "0 -"), (f"(measure {some.replace('1', '7')})", "2 -"),
            (f"(within 2 {Q})", "2 ('x' 1) ('y' empty)"), (f"(within 1 {Q})", "TooDear 1"), (f"(within 0 {Q})", "TooDear 0"),
            (f"(within 0 {empty})", "0 -"), (f"(within {'9' * 30} {some})", "2 ('x')"),
            (f"(explain {Q})", "x scan t:- reads 2 matches 2; estimate 2"), (f"(why 1 {Q})", "(t:- 'y')"),
            (f"(why 0 {group.format('true')})", "(t:- 'x') (t:- 'y')"), (f"(why 0 {group.format('false')})", "-"),
            (f"(why 2 {Q})", "InvalidCount 2"), ("(suspended)", "-"),
        ):
            self.says(desk, "low", text, answer)
            self.says(desk, "ann", text, answer)

    def test_suspended(self):
        desk = self.desk(
            ("low", "(insert t 'x' 1)"), ("low", "(insert t 'y' 7)"), ("low", "(table u (k int filled) (p text maybe))"),
            ("low", "(insert u 1 'y')"), ("low", "(insert u 2 'x')"), ("low", "(reference r u p t restrict)"),
            ("ann", "(insert u 3 'x')"), ("ann", "(check c t (less n 5))"), ("top", "(check d u (less k 2))"))
        self.says(desk, "ann", "(suspended)", "(t:- 'y' - 1 (check c a)) (u:- 1 - 2 (reference r - 'y'))")
        self.says(desk, "top", "(suspended)", "(t:- 'y' - 1 (check c a)) (u:- 1 - 2 (reference r - 'y')) (u:- 2 - 1 (check d a+b)) "
                                              "(u:- 3 a 1 (check d a+b))")
        for text in ("(drop reference r)", "(drop table u)"):
            self.says(desk, "low", text, "-")
        self.says(desk, "ann", "(suspended)", "(t:- 'y' - 1 (check c a)) (u:- 3 a 1 (table))")
        self.says(desk, "low", "(table u (k text filled))", "-")
        self.says(desk, "ann", "(suspended)", "(t:- 'y' - 1 (check c a)) (u:- 3 a 1 (row))")

    def test_transactions_and_memos(self):
        desk = self.desk(("low", "(insert t 'x' 1)"), ("low", f"(view v {Q})"))
        for text, answer in (
            ("(commit)", "NoTransaction 0"), ("(abandon)", "NoTransaction 0"), ("(begin)", "-"), ("(begin)", "InTransaction 0"),
            ("(commit)", "0"), ("(begin)", "-"), ("(abandon)", "-"), ("(refresh v)", "1"), ("(refresh v:-)", "0"), ("(forget v)", "-"),
            ("(forget v)", "NoMemo v"), ("(refresh t)", "UnknownSource t"), ("(refresh w:a)", "UnknownSource w:a"), ("(forget q)", "UnknownSource q"),
            ("(begin)", "-"), ("(insert t empty 1)", "'a.0.0'"), ("(insert t 'x' 1)", "Taken 'x'"), (f"(ask {Q})", "('a.0.0' 1) ('x' 1)"),
            ("(commit)", "3"), ("(flush)", "1"), ("(compact 1)", "InvalidCount 1"),
        ):
            self.says(desk, "ann", text, answer)
        self.says(desk, "low", "(flush)", "3")
        for text, answer in (("(compact 0)", "InvalidCount 0"), ("(compact 2)", "InvalidCount 2"), ("(compact 1)", "-"), ("(flush)", "1")):
            self.says(desk, "ann", text, answer)
        self.assertEqual([record[0] for record in desk.keeper().records(LOW)], ["record"] * 3)

    def test_what_is_refused_within_a_transaction(self):
        desk = self.desk(("low", f"(view v {Q})"), ("bob", "(offer t - (row 'x' 1))"), ("bob", "(refresh v)"), ("bob", "(begin)"))
        for text in ("(refresh v)", "(refresh q)", "(forget v)", "(forget q)", "(flush)", "(compact 1)", "(compact 99)",
                     "(offer t - (row 'x' 1))", "(offer t a (row 'x' 1))", "(confirm 0)", "(confirm 9)"):
            self.refuses(desk, "bob", text, "InTransaction 1")
        self.says(desk, "bob", "(commit)", "0")


class ErrorTest(DeskCase):
    def test_errors_of_writes(self):
        desk = self.desk(
            ("low", "(table u (k int filled) (p text maybe) (b truth maybe))"), ("low", "(check c t (less n 9))"),
            ("low", "(reference r u p t restrict)"), ("low", "(insert t 'x' 1)"), ("low", "(insert u 1 'x' empty)"))
        for text, answer in (
            ("(insert q 1)", "UnknownSource q"), ("(insert t:a 1)", "UnknownSource t:a"), ("(insert t)", "WrongValues ()"),
            ("(insert t 'a' true)", "WrongValues ('a' true)"), ("(insert t empty 1 2)", "WrongValues (empty 1 2)"),
            ("(insert u empty 'x' true)", "WrongValues (empty 'x' true)"), ("(insert t 'x' 1)", "Taken 'x'"), ("(insert u 1 empty empty)", "Taken 1"),
            ("(insert t 'z' 9)", "Broken c 'z'"), ("(insert t empty 9)", "Broken c '-.0.0'"), ("(insert u 2 'q r' empty)", "Missing r 'q r'"),
            ("(change q 1)", "UnknownSource q"), ("(change t 'q' (z 1))", "NoRow 'q'"), ("(change t 5)", "NoRow 5"),
            ("(change t 'x' (z 1) (k 2))", "UnknownColumn k"), ("(change t 'x' (n 'a'))", "WrongValues ((n 'a'))"),
            ("(change u 1 (b 1) (p empty))", "WrongValues ((p empty) (b 1))"), ("(change t 'x' (n 9))", "Broken c 'x'"),
            ("(change u 1 (p 'q'))", "Missing r 'q'"), ("(remove q 1)", "UnknownSource q"), ("(remove u -7)", "NoRow -7"),
            ("(remove t 'x')", "Restricted r 1"), ("(revert u 9)", "NoEntry 9"), ("(revert t 'x')", "WouldSuspend u:- 1"),
        ):
            self.refuses(desk, "low", text, answer)

    def test_keys_that_are_texts(self):
        desk = self.desk(
            ("low", "(table u (k text filled) (p text maybe))"), ("low", "(insert t 'x' 1)"), ("ann", "(insert u 'y' 'x')"),
            ("low", "(reference r u p t restrict)"), ("low", "(check c t (less n 9))"))
        for text, answer in (("(remove t 'x')", "Restricted r 'y'"), ("(insert u 'z' 'q')", "Missing r 'q'"), ("(change t 'x' (n 9))", "Broken c 'x'"),
                             ("(revert t 'x')", "NoEntry 'x'"), ("(remove u 'z')", "NoRow 'z'"), ("(check d u (same k 'a'))", "WouldSuspend u:- 'y'")):
            self.refuses(desk, "ann", text, answer)

    def test_waiting(self):
        desk = self.desk(("ann", "(insert t 'x' 7)"), ("low", "(check c t (less n 5))"))
        self.refuses(desk, "ann", "(insert t 'x' 1)", "Waiting 'x'")

    def test_errors_of_entries(self):
        desk = self.desk(("low", "(insert t 'x' 7)"), ("low", "(index i t n)"))
        for text, answer in (
            ("(table t (k text filled))", "NameTaken t"), ("(table u (k text maybe))", "InvalidColumns 0"), ("(table u (k truth filled))", "InvalidColumns 0"),
            ("(table u (k int filled) (n int maybe) (k int maybe))", "InvalidColumns 2"),
            ("(view v x)", "InvalidText query"), ("(view v 'x')", "InvalidText query"), ("(view t x)", "InvalidText query"),
            ("(view v (select (items (k x.k)) (from (x q))))", "UnknownSource q"),
            ("(view v (select (items (k x.q)) (from (x t))))", "UnknownColumn x.q"),
            ("(view v (select (items (k x.k) (b (not (add x.n 1)))) (from (x t))))", "WrongSort (items 1)"),
            ("(view v (select (items (k x.k) (b (and (not x.n) true))) (from (x t))))", "WrongSort (items 1 0)"),
            ("(view v (select (items (k x.k)) (from (x t)) (where x.n)))", "WrongSort (where 0)"),
            ("(check c t (add n))", "InvalidText expression"), ("(check c t x.n)", "InvalidText expression"), ("(check c t 'n')", "WrongSort ()"),
            ("(check c t n)", "WrongSort ()"), ("(check c t (not (not n)))", "WrongSort (0)"), ("(check c t q)", "UnknownColumn q"),
            ("(check c q (not n))", "UnknownSource q"), ("(check c t (less n 7))", "WouldSuspend t:- 'x'"),
            ("(reference r t n t x)", "InvalidRule x"), ("(reference r t n t restrict)", "WrongSort ()"), ("(reference r t k t empty)", "InvalidRule empty"),
            ("(reference r t q t restrict)", "UnknownColumn q"), ("(index i t n)", "NameTaken i"), ("(index j t q)", "UnknownColumn q"),
            ("(drop x i)", "UnknownKind x"), ("(drop index j)", "UnknownEntry j"), ("(drop table t)", "InUse index i"),
        ):
            self.refuses(desk, "low", text, answer)

    def test_errors_of_queries(self):
        desk = self.desk()
        for query, answer in (
            ("x", "InvalidText query"), ("'x'", "InvalidText query"), ("(select (items (k x.k)) (from (x q:a+b)))", "UnknownSource q:a+b"),
            ("(select (items (k x.q)) (from (x t)))", "UnknownColumn x.q"), ("(select (items (c (sum x.k))) (from (x t)) (group))", "WrongSort (items 0)"),
            ("(select (items (c (sum (not 1)))) (from (x t)) (group))", "WrongSort (items 0 0)"),
            ("(select (items (c 1)) (from (x t)) (group 1 (not 1)))", "WrongSort (group 1)"),
        ):
            for word in ("ask", "measure", "within 5", "explain", "why 5"):
                self.refuses(desk, "low", f"({word} {query})", answer)

    def test_an_entry_that_cannot_be_made_is_no_command(self):
        texts = ("(table u (k text maybe))", "(view v x)", "(check c t (add n))", "(reference r t n t x)")
        errors = ("InvalidColumns 0", "InvalidText query", "InvalidText expression", "InvalidRule x")
        desk = self.desk()
        for text, error in zip(texts, errors):
            self.refuses(desk, "ann", text, error)
        self.says(desk, "ann", "(begin)", "-")
        for text, error in zip(texts, errors):
            self.says(desk, "ann", text, error)
        self.says(desk, "ann", "nothing", "InvalidLine")
        # these are commands, although they raise errors
        for text, error in (("(table t (k text filled))", "-"), ("(view t (select (items (k x.k)) (from (x q))))", "NameTaken t"),
                            ("(check c t n)", "UnknownColumn n"), ("(drop x y)", "UnknownKind x")):
            self.says(desk, "ann", text, error)
        self.says(desk, "ann", "(commit)", "4")


class OutcomeTest(DeskCase):
    """ReplayDiffers has the outcomes as the lines would have been answered."""

    def differs(self, setting, commands, meanwhile, expected):
        desk = self.desk(*setting)
        self.says(desk, "ann", "(begin)", "-")
        for text in commands:
            desk.line("ann", text)
        for text in meanwhile:
            self.assertFalse(desk.line("low", text)[:1].isupper(), text)
        self.says(desk, "ann", "(commit)", expected)
        self.says(desk, "ann", "(commit)", "NoTransaction 0")

    def test_writes(self):
        put = ("low", "(insert t 'x' 1)")
        self.differs([put], ["(suspended)", "(change t 'x' (n 2))"], ["(remove t 'x')"], "ReplayDiffers 1 (done -) (error NoRow 'x')")
        self.differs([], ["(insert t 'a' 2)"], ["(insert t 'a' 2)"], "ReplayDiffers 0 (done 'a') (error Taken 'a')")
        self.differs([], ["(insert t empty 2)"], ["(insert t 'a.0.0' 2)"], "ReplayDiffers 0 (done 'a.0.0') (done 'a.0.1')")
        self.differs([put], ["(remove t 'x')"], ["(remove t 'x')"], "ReplayDiffers 0 (done (t:- 'x')) (error NoRow 'x')")
        self.differs([], ["(insert t 'x' 'y')"], ["(drop table t)"], "ReplayDiffers 0 (error WrongValues ('x' 'y')) (error UnknownSource t)")
        self.differs([put], ["(change t 'x' (n 'y'))"], ["(remove t 'x')"], "ReplayDiffers 0 (error WrongValues ((n 'y'))) (error NoRow 'x')")
        self.differs([], ["(insert t 'x' 5)"], ["(check c t (less n 5))"], "ReplayDiffers 0 (done 'x') (error Broken c 'x')")
        self.differs([], ["(revert t 'x')"], ["(drop table t)"], "ReplayDiffers 0 (error NoEntry 'x') (error UnknownSource t)")

    def test_entries(self):
        self.differs([], ["(index i t n)", "(index j t q)"], ["(drop table t)"], "ReplayDiffers 0 (done -) (error UnknownSource t)")
        self.differs([], ["(check c t (not n))"], ["(drop table t)", "(table t (k text filled) (n truth maybe))"],
                     "ReplayDiffers 0 (error WrongSort ()) (done -)")
        self.differs([], ["(index i t q)"], ["(drop table t)", "(table t (k text filled) (q text maybe))"],
                     "ReplayDiffers 0 (error UnknownColumn q) (done -)")

    def test_queries(self):
        put = ("low", "(insert t 'x' 1)")
        more = ["(insert t 'q' empty)"]
        self.differs([put], ["(suspended)", f"(ask {Q})"], more, "ReplayDiffers 1 (done ('x' 1)) (done ('q' empty) ('x' 1))")
        self.differs([put], [f"(measure {Q})"], more, "ReplayDiffers 0 (done 1 ('x' 1)) (done 2 ('q' empty) ('x' 1))")
        self.differs([put], [f"(within 1 {Q})"], more, "ReplayDiffers 0 (done 1 ('x' 1)) (error TooDear 1)")
        self.differs([put], [f"(explain {Q})"], more, "ReplayDiffers 0 (done x scan t:- reads 1 matches 1; estimate 1) "
                                                      "(done x scan t:- reads 2 matches 2; estimate 2)")
        self.differs([put], [f"(why 0 {Q})"], more, "ReplayDiffers 0 (done (t:- 'x')) (done (t:- 'q'))")
        self.differs([put], [f"(why 1 {Q})"], more, "ReplayDiffers 0 (error InvalidCount 1) (done (t:- 'x'))")
        self.differs([], [f"(ask {Q})", "(check c t (less n 5))", "(suspended)"], ["(insert t 'q' 7)"],
                     "ReplayDiffers 0 (done -) (done ('q' 7))")
        self.differs([("ann", "(check c t (less n 5))")], ["(suspended)"], ["(insert t 'q' 7)"],
                     "ReplayDiffers 0 (done -) (done (t:- 'q' - 1 (check c a)))")
        self.differs([], [f"(ask {Q.replace('x.n', '(not x.n)')})"], ["(drop table t)"],
                     "ReplayDiffers 0 (error WrongSort (items 1)) (error UnknownSource t)")


class OtherTest(DeskCase):
    def test_unknown_users(self):
        desk = Desk("a")
        desk.add_user("ann", LOW)
        for value in every_kind():
            for text in ("(suspended)", 5):
                told = error_of(desk.line, value, text)
                self.assertEqual(told[0], "UnknownUser")
                self.assertIs(told[1], value)

    def test_lines_are_repeated_alike(self):
        desk = self.desk(("low", "(insert t 'x' 1)"))
        for text in (ASKED, "(suspended)", f"(measure {Q})", f"(why 0 {Q})", "(commit)", "x", "(compact 9)", "(confirm 1)"):
            self.assertEqual(exact(desk.line("ann", text)), exact(desk.line(user="ann", text=text)))


if __name__ == "__main__":
    unittest.main()
