"""[31], [33]: tables as text, the desk, its users and replicas, and events."""

import unittest

from aboveless.desk import Desk, columns_text
from aboveless.journals import Keeper
from aboveless.labels import Label
from tests.helpers import error_of, every_kind, exact, unchanged
from tests.samples import A, AB, B, LOW
from tests.test_releases import ASKED, DeskCase

Q = "(select (items (k x.k) (n x.n)) (from (x t)))"


class ColumnsTest(unittest.TestCase):
    def told(self, rows, expected, **width):
        for given in (rows, tuple(rows), [list(row) for row in rows]):
            for _ in range(2):
                before = [list(row) for row in given]
                self.assertEqual(columns_text(given, **width), expected)
                self.assertEqual(exact([list(row) for row in given]), exact(before))

    def test_no_rows(self):
        self.told([], "")
        self.told([], "", width=60)

    def test_values(self):
        self.told([(1, "ab", True, False, None)], "         1 'ab'       true       false      empty")
        self.told([("ab", -12)], "'ab'              -12")
        self.told([("x", 1), (22, None), (None, "y")], "'x'                 1\n        22 empty\nempty      'y'")

    def test_one_value(self):
        self.told([(1,), ("a",), (None,), (True,)], "    1\n'a'\nempty\ntrue", width=5)

    def test_widths(self):
        self.told([(1, "a", 2)], "1 'a' 2", width=1)
        self.told([("a", 1)], "'a'" + " " * 57 + " " + " " * 59 + "1", width=60)
        self.told([(1, 2)], " 1  2", width=2)
        self.assertEqual(columns_text(rows=[(1, 2)], width=3), "  1   2")

    def test_longer_texts(self):
        self.told([("abcdef", 12345, "b", 1)], "'abcdef' 12345 'b'   1", width=3)
        self.told([("abcdef", True)], "'abcdef' true", width=1)
        self.told([(10 ** 29, "x" * 60)], f"{10 ** 29} '{'x' * 60}'")
        self.told([("abcdefgh", 1)], "'abcdefgh'          1")

    def test_spaces_within_texts(self):
        self.told([("a  ", "  ")], "'a  ' '  '", width=4)

    def test_wrong_widths(self):
        for value in every_kind() + [60, 61, 0, -1]:
            if exact(value)[0] == "int" and 1 <= value <= 60:
                self.assertEqual(error_of(lambda: columns_text([], width=value)), None)
            else:
                told = error_of(lambda: columns_text([], width=value))
                self.assertEqual(told[0], "InvalidCount")
                self.assertIs(told[1], value)
        self.assertRaises(TypeError, columns_text, [], 5)


class MakingTest(unittest.TestCase):
    def test_marks_and_replicas(self):
        desk = Desk("b", "a", "b", replicas=(A, A, LOW))
        self.assertIsInstance(desk.keeper(), Keeper)
        self.assertEqual(desk.keeper().marks, ("a", "b"))
        self.assertEqual([desk.deliver(number, LOW, 1) for number in range(3)], [0, 0, 0])
        self.assertEqual(error_of(desk.deliver, 3, LOW, 1), ("InvalidCount", 3))
        self.assertEqual(error_of(Desk().deliver, 0, LOW, 1), ("InvalidCount", 0))
        self.assertEqual(error_of(Desk("a", replicas=[]).deliver, 0, LOW, 1), ("InvalidCount", 0))

    def test_errors(self):
        self.assertEqual(error_of(lambda: Desk("a", "B", replicas=[5])), ("InvalidName", "B"))
        self.assertEqual(error_of(lambda: Desk("a", "b", "c", "d", "e", replicas=[5])), ("TooMany", "marks", 4))
        for value in [value for value in every_kind() if not isinstance(value, Label)] + [B, AB]:
            told = error_of(lambda: Desk("a", replicas=[A, value, 7]))
            self.assertEqual(told[0], "InvalidLabel")
            self.assertIs(told[1], value)

    def test_the_list_of_replicas_is_copied(self):
        labels = [A]
        desk = Desk("a", replicas=labels)
        labels.clear()
        self.assertEqual(desk.deliver(0, LOW, 1), 0)


class UsersTest(unittest.TestCase):
    def test_users(self):
        desk = Desk("a", "b")
        self.assertEqual(desk.users(), {})
        for name, label in (("zed", AB), ("ann", LOW), ("bob", AB)):
            self.assertIsNone(desk.add_user(name, label))
        self.assertEqual(list(desk.users().items()), [("zed", AB), ("ann", LOW), ("bob", AB)])
        desk.users().clear()
        self.assertEqual(len(desk.users()), 3)
        desk.add_user(name="eve", label=B)
        desk.crash()
        self.assertEqual(list(desk.users()), ["zed", "ann", "bob", "eve"])

    def test_errors(self):
        desk = Desk("a")
        desk.add_user("ann", A)
        for value in every_kind():
            told = error_of(desk.add_user, value, 5)
            if isinstance(value, str) and value.isalpha() and value.islower() and len(value) <= 8:
                self.assertEqual(told, ("InvalidLabel", 5))
            else:
                self.assertEqual(told[0], "InvalidName")
                self.assertIs(told[1], value)
            if not isinstance(value, Label):
                self.assertIs(error_of(desk.add_user, "bob", value)[1], value)
        self.assertEqual(error_of(desk.add_user, "ann", 5), ("NameTaken", "ann"))
        self.assertEqual(error_of(desk.add_user, "bob", B), ("InvalidLabel", B))
        self.assertEqual(desk.users(), {"ann": A})
        # a session that a refused user would have had is not there
        desk.add_user("bob", A)
        desk.line("bob", "(table t (k text filled))")
        self.assertEqual(desk.line("bob", "(insert t empty)"), "'a.1.0'")


class CallsTest(DeskCase):
    def test_crash(self):
        desk = self.desk(("ann", "(insert t 'x' 1)"))
        self.assertEqual(desk.crash({"a": 0}), {"-": 1, "a": 0, "b": 0, "a+b": 0})
        self.assertEqual(desk.crash(kept=None), {"-": 1, "a": 0, "b": 0, "a+b": 0})
        self.says(desk, "ann", "(offer t - (row 'x' 1))", "0")
        before = self.state(desk)
        for kept, error in (({"c": 1}, ("InvalidLabel", "c")), ({"a": -1}, ("InvalidCount", -1))):
            self.assertEqual(error_of(desk.crash, kept), error)
        self.assertEqual(self.state(desk), before)
        # the offer is still there, and the sessions have not ended
        self.says(desk, "ann", "(offer t - (row 'x' 1))", "1")

    def test_deliver(self):
        desk = self.desk(("low", "(insert t 'x' 1)"), ("low", "(flush)"), replicas=[A, LOW])
        for value in every_kind():
            if not (exact(value)[0] == "int" and 0 <= value < 2):
                told = error_of(desk.deliver, value, 5, -1)
                self.assertEqual(told[0], "InvalidCount")
                self.assertIs(told[1], value)
        self.assertEqual(error_of(desk.deliver, 0, B, -1), ("InvalidLabel", B))
        self.assertEqual(error_of(desk.deliver, 1, A, -1), ("InvalidLabel", A))
        self.assertEqual(error_of(desk.deliver, 0, 5, -1), ("InvalidLabel", 5))
        self.assertEqual(error_of(desk.deliver, 0, LOW, -1), ("InvalidCount", -1))
        self.assertEqual(desk.deliver(0, LOW, 1), 1)
        self.assertEqual(desk.deliver(replica=0, label=LOW, count=5), 1)
        self.assertEqual(desk.deliver(1, LOW, 5), 2)

    def test_read_at(self):
        desk = self.desk(("low", "(insert t 'x' 1)"), ("ann", "(insert t 'y' empty)"), ("low", "(flush)"), ("ann", "(flush)"), replicas=[A, LOW])
        self.assertEqual(desk.read_at(0, "ann", Q), "UnknownSource t")
        desk.deliver(0, LOW, 1)
        self.assertEqual(desk.read_at(0, "ann", Q), "-")
        desk.deliver(0, LOW, 1)
        desk.deliver(0, A, 1)
        self.assertEqual(desk.read_at(0, "ann", Q), "('x' 1) ('y' empty)")
        self.assertEqual(desk.read_at(replica=0, user="low", text=Q), "('x' 1)")
        for user, answer in (("ben", "InvalidLabel b"), ("top", "InvalidLabel a+b"), ("low", "('x' 1)")):
            self.assertEqual(desk.read_at(0, user, Q), answer)
        self.assertEqual(desk.read_at(1, "ann", Q), "InvalidLabel a")
        for text, answer in (
            ("x", "InvalidText query"), (5, "InvalidText string"), (None, "InvalidText string"), (Q.replace("x t", "x q"), "UnknownSource q"),
            (Q.replace("x.n", "x.q"), "UnknownColumn x.q"), (Q.replace("x.n", "(not x.n)"), "WrongSort (items 1)"), (f"(ask {Q})", "InvalidText query"),
        ):
            self.assertEqual(desk.read_at(0, "ann", text), answer)
        self.assertEqual(desk.read_at(1, "ann", "x"), "InvalidLabel a")

    def test_errors_of_read_at(self):
        desk = self.desk(replicas=[A])
        for value in every_kind():
            if not (exact(value)[0] == "int" and value == 0):
                told = error_of(desk.read_at, value, "nobody", Q)
                self.assertEqual(told[0], "InvalidCount")
                self.assertIs(told[1], value)
            told = error_of(desk.read_at, 0, value, Q)
            self.assertEqual(told[0], "UnknownUser")
            self.assertIs(told[1], value)

    def test_arrive(self):
        desk = self.desk()
        self.assertEqual(unchanged(self, desk.arrive, A, "t", [["x", 1], [None, 2]]), ["x", "a.in.1.1"])
        self.assertEqual(desk.arrive(label=LOW, table="t", rows=()), [])
        for given, error in ((("x", "t", []), ("InvalidLabel", "x")), ((Label("c"), "t", []), ("InvalidLabel", Label("c"))),
                             ((A, "q", [[1]]), ("UnknownSource", "q")), ((A, "t", [["y", 1], ["x", 1]]), ("Taken", "x"))):
            self.assertEqual(error_of(desk.arrive, *given), error)
        self.says(desk, "ann", ASKED, "('a.in.1.1' 2) ('x' 1)")

    def test_keeper(self):
        desk = self.desk(("ann", "(insert t 'x' 1)"))
        self.assertEqual((desk.keeper().length(A), desk.keeper().commits(LOW)), (1, 1))
        self.assertEqual(desk.keeper().base_copy().layer(A, "t:-"), {"x": ("x", 1)})


class EventTest(DeskCase):
    def test_events(self):
        desk = self.desk(replicas=[A])
        for event, answer in (
            (("line", "low", "(insert t 'x' 1)"), "'x'"), (("line", "low", "nothing"), "InvalidLine"), (("line", "low", "(flush)"), "2"),
            (("deliver", 0, "-", 2), None), (("read", 0, "low", Q), "('x' 1)"), (("read", 0, "top", Q), "InvalidLabel a+b"),
            (("arrive", "a", "t", [["y", 1]]), None), (("line", "ann", ASKED), "('x' 1) ('y' 1)"), (("crash", {"a": 0}), None),
            (("line", "ann", ASKED), "('x' 1)"), (("crash", {}), None), (("arrive", "-", "t", ()), None), (("arrive", "-", "t", (("z", 1),)), None),
            (("line", "low", ASKED), "('x' 1) ('z' 1)"), (("deliver", 0, "-", 0), None),
        ):
            self.assertEqual(unchanged(self, desk.event, event), answer, event)
        self.assertEqual(desk.event(event=("line", "low", "(commit)")), "NoTransaction 1")

    def test_arrivals_that_are_refused(self):
        desk = self.desk(("low", "(insert t 'x' 1)"))
        before = self.state(desk)
        for label, table, rows in (("-", "t", [["y", 1], ["x", 1]]), ("-", "q", [["y", 1]]), ("a", "t", [[1]]), ("a", "", [[]]), ("-", "t", [["y", "y"]])):
            self.assertIsNone(desk.event(("arrive", label, table, rows)))
            self.assertEqual(self.state(desk), before)

    def test_errors_of_events(self):
        desk = self.desk(replicas=[A])
        for event, error in (
            (("line", "eve", "x"), ("UnknownUser", "eve")), (("line", "", "x"), ("UnknownUser", "")), (("crash", {"c": 1}), ("InvalidLabel", "c")),
            (("deliver", 1, "-", 1), ("InvalidCount", 1)), (("deliver", 0, "b", 1), ("InvalidLabel", B)), (("deliver", 0, "c", 1), ("InvalidLabel", Label("c"))),
            (("read", 1, "ann", Q), ("InvalidCount", 1)), (("read", 0, "eve", Q), ("UnknownUser", "eve")),
            (("arrive", "c", "t", [["x", 1]]), ("InvalidLabel", Label("c"))), (("arrive", "c", "t", []), ("InvalidLabel", Label("c"))),
        ):
            self.assertEqual(error_of(desk.event, event), error)

    def test_values_that_are_no_events(self):
        desk = self.desk(replicas=[A])
        good = [("line", "low", "x"), ("crash", {"-": 0}), ("deliver", 0, "-", 0), ("read", 0, "low", "x"), ("arrive", "-", "t", [["x", 1]])]
        before = self.state(desk)
        wrong = every_kind() + [("line",), ("", "low", "x"), ("lines", "low", "x"), ("LINE", "low", "x"), ("crash",), ("crash", {}, {}), ("crash", None),
                                ("crash", [("-", 0)]), ("crash", {"-": -1}), ("crash", {"-": True}), ("crash", {"-": None}), ("crash", {"": 1}),
                                ("crash", {"b+a": 1}), ("crash", {"A": 1}), ("crash", {None: 1}), ("crash", {1: 1}), ("crash", {("-",): 1}), ("crash", {"a+b+c+d+e": 1}),
                                ("arrive", "-", "t", [5]), ("arrive", "-", "t", ["x"]), ("arrive", "-", "t", [["x"], {"k": 1}]), ("arrive", "-", "t", "x"),
                                ("arrive", "-", "t", {}), ("arrive", "-", 5, []), ("arrive", A, "t", []), ("arrive", "+", "t", [])]
        for event in good:
            wrong += [list(event), event + (1,), event[:-1], event[:1]]
            for at in range(len(event)):
                for value in every_kind():
                    # strings of any kind are users, texts and tables; counts are numbers
                    is_fit = isinstance(value, str) if isinstance(event[at], str) else exact(value)[0] == "int" and value >= 0
                    if isinstance(event[at], (dict, list)):
                        is_fit = isinstance(value, dict) if isinstance(event[at], dict) else isinstance(value, (list, tuple))
                    if not is_fit:
                        wrong.append(event[:at] + (value,) + event[at + 1:])
        for event in wrong:
            told = error_of(desk.event, event)
            self.assertEqual(told[0], "InvalidEvent", event)
            self.assertIs(told[1], event)
        self.assertEqual(self.state(desk), before)


if __name__ == "__main__":
    unittest.main()
