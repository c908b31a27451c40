"""[26]: engines, sessions and their commands, outside and within transactions."""

import unittest

from aboveless.entries import Check, Entry, Index, Reference, View
from aboveless.labels import Label
from aboveless.sessions import Engine
from aboveless.writes import Writer
from tests.helpers import Odd, end_of, error_of, every_kind, exact, unchanged
from tests.samples import A, AB, B, LOW, table

T = table("t", "k:text", "n:int?", "b:truth?")
U = table("u", "k:int", "p:text?")
VIEW = View("v", "(select (items (k x.k) (n x.n)) (from (x t)))")
ASKED = "(select (items (k x.k) (n x.n)) (from (x t)))"


class SessionCase(unittest.TestCase):
    def engine(self, *entries, label=LOW, marks=("a", "b")):
        """An engine with entries at the least label, which a session of another engine's number made."""
        made = Engine(*marks)
        session = made.open_session(label)
        for entry in entries:
            session.do(("define", entry))
        return made

    def state(self, engine):
        """All that an engine tells, but for its memos."""
        labels = list(Label(*engine.marks).below())
        base = engine.base_copy()
        worlds = [base.world(label) for label in labels]
        rows = [[told for source in world.tables() for told in world.rows(source)] for world in worlds]
        suspended = [world.suspended() for world in worlds]
        return ([base.entries(label) for label in labels], rows, suspended, [engine.commits(label) for label in labels])

    def refused(self, engine, session, command, error):
        """Checks that a command raises an error behind which nothing has changed, twice, and in a transaction too."""
        before = (engine.base_copy(), self.state(engine), session.given)
        for _ in range(2):
            self.assertEqual(exact(error_of(session.do, command)), exact(error), command)
            self.assertEqual((engine.base_copy(), self.state(engine), session.given), before)
        session.begin()
        self.assertEqual(exact(error_of(session.do, command)), exact(error), command)
        self.assertEqual((engine.base_copy(), self.state(engine), session.given), before)
        # unlike InvalidCommand it is one of the commands
        self.assertEqual(session.commit(), 1)
        self.assertEqual((engine.base_copy(), self.state(engine), session.given), before)


class EngineTest(SessionCase):
    def test_marks(self):
        self.assertEqual(Engine().marks, ())
        self.assertEqual(Engine("b", "a", "b").marks, ("a", "b"))
        self.assertEqual(error_of(Engine, "a", "B", 5), ("InvalidName", "B"))
        self.assertEqual(error_of(Engine, "a", "b", "c", "d", "e"), ("TooMany", "marks", 4))
        for value in every_kind():
            if not (isinstance(value, str) and value.isalpha() and value.islower() and len(value) < 9):
                told = error_of(Engine, "a", value)
                self.assertEqual(told[0], "InvalidName")
                self.assertIs(told[1], value)

    def test_an_empty_database(self):
        engine = Engine("a")
        self.assertEqual(engine.base_copy().marks, ("a",))
        self.assertEqual((engine.base_copy().entries(A), len(engine.base_copy().world(A))), ([], 0))
        self.assertEqual((engine.commits(A), engine.commits(LOW)), (0, 0))

    def test_labels(self):
        engine = Engine("a")
        for value in [value for value in every_kind() if not isinstance(value, Label)] + [B, AB]:
            for call in (engine.open_session, engine.commits):
                told = error_of(call, value)
                self.assertEqual(told[0], "InvalidLabel")
                self.assertIs(told[1], value)
        self.assertEqual(engine.open_session(label=A).session_number, 0)
        self.assertEqual(engine.commits(label=A), 0)

    def test_numbers_of_sessions(self):
        engine = Engine("a", "b")
        told = [engine.open_session(label) for label in (A, A, LOW, AB, A, LOW)]
        self.assertEqual([session.session_number for session in told], [0, 1, 0, 0, 2, 1])
        self.assertEqual([session.label for session in told], [A, A, LOW, AB, A, LOW])
        self.assertEqual([session.given for session in told], [0] * 6)
        self.assertEqual([session.in_transaction for session in told], [False] * 6)

    def test_copies_of_the_database(self):
        engine = self.engine(T)
        copied = engine.base_copy()
        copied.put_row(LOW, "t:-", ("x", 1, None))
        self.assertEqual(engine.base_copy().layer(LOW, "t:-"), {})
        engine.open_session(A).do(("insert", "t", ["y", 1, None]))
        self.assertEqual(copied.layer(A, "t:-"), {})


class WritesTest(SessionCase):
    def test_what_writes_return(self):
        engine = Engine("a", "b")
        session = engine.open_session(A)
        self.assertIsNone(session.do(("define", T)))
        self.assertIsNone(session.do(("define", U)))
        self.assertIsNone(session.do(command=("define", Reference("r", "u", "p", "t", rule="cascade"))))
        self.assertEqual(session.do(("insert", "t", ["x", 1, True])), "x")
        self.assertEqual(session.do(("insert", "t", (None, 2, None))), "a.0.0")
        self.assertEqual(session.do(("insert", "u", [7, "x"])), 7)
        self.assertIsNone(session.do(("change", "t", "x", {"n": 5})))
        self.assertIsNone(session.do(("change", "t", "x", {})))
        self.assertEqual(session.do(("remove", "t", "x")), [("t:a", "x"), ("u:a", 7)])
        self.assertIsNone(session.do(("define", Index("i", "t", "n"))))
        self.assertIsNone(session.do(("drop", "index", "i")))
        self.assertEqual(engine.base_copy().layer(A, "t:a"), {"a.0.0": ("a.0.0", 2, None)})
        self.assertIsNone(session.do(("revert", "t", "a.0.0")))
        self.assertEqual(engine.base_copy().layer(A, "t:a"), {})
        self.assertEqual(engine.commits(A), 11)

    def test_writes_are_those_of_a_writer(self):
        engine = self.engine(T, U, Check("c", "t", "(less n 9)"), Reference("r", "u", "p", "t"))
        session = engine.open_session(A)
        base = engine.base_copy()
        writer = Writer(base, A, session=0)
        steps = (
            (("insert", "t", [None, 5, None]), (writer.add_row, "t", [None, 5, None])),
            (("insert", "u", [1, "a.0.0"]), (writer.add_row, "u", [1, "a.0.0"])),
            (("change", "t", "a.0.0", {"b": True}), (writer.change_row, "t", "a.0.0", {"b": True})),
            (("define", VIEW), (writer.define, VIEW)),
            (("remove", "u", 1), (writer.take_row, "u", 1)),
            (("revert", "t", "a.0.0"), (writer.revert_row, "t", "a.0.0")),
            (("drop", "view", "v"), (writer.drop, "view", "v")),
        )
        for command, call in steps:
            self.assertEqual(exact(unchanged(self, session.do, command)), exact(call[0](*call[1:])))
            self.assertEqual(engine.base_copy(), base)
            self.assertEqual(session.given, writer.given)

    def test_errors_of_writes(self):
        engine = self.engine(T, U, Check("c", "t", "(less n 9)"), Reference("r", "u", "p", "t"), VIEW)
        session = engine.open_session(A)
        session.do(("insert", "t", ["x", 1, None]))
        session.do(("insert", "u", [1, "x"]))
        cases = (
            (("insert", "w", []), ("UnknownSource", "w")),
            (("insert", None, [1]), ("UnknownSource", None)),
            (("insert", "v", ["x"]), ("UnknownSource", "v")),
            (("insert", "t", ["y", True, None]), ("WrongValues", ("y", True, None))),
            (("insert", "t", [None, 1]), ("WrongValues", (None, 1))),
            (("insert", "t", ["x", 99, None]), ("Taken", "x")),
            (("insert", "t", [None, 99, None]), ("Broken", "c", "a.0.0")),
            (("insert", "u", [2, "z"]), ("Missing", "r", "z")),
            (("change", "w", "x", {}), ("UnknownSource", "w")),
            (("change", "t", "y", {"q": 1}), ("NoRow", "y")),
            (("change", "t", "x", {"q": 1, "k": 2}), ("UnknownColumn", "k")),
            (("change", "t", "x", {"b": 1, "n": 2}), ("WrongValues", (("n", 2), ("b", 1)))),
            (("change", "t", "x", {"n": 9}), ("Broken", "c", "x")),
            (("change", "u", 1, {"p": "z"}), ("Missing", "r", "z")),
            (("remove", "w", 1), ("UnknownSource", "w")),
            (("remove", "t", True), ("NoRow", True)),
            (("remove", "t", "x"), ("Restricted", "r", 1)),
            (("revert", "w", 1), ("UnknownSource", "w")),
            (("revert", "t", "z"), ("NoEntry", "z")),
            (("revert", "t", "x"), ("WouldSuspend", "u:-", 1)),
            (("define", None), ("InvalidEntry", None)),
            (("define", ("table", "w", (("k", "int", False),))), ("InvalidEntry", ("table", "w", (("k", "int", False),)))),
            (("define", Index("i", "w", "k")), ("UnknownSource", "w")),
            (("define", Index("i", "t", "q")), ("UnknownColumn", "q")),
            (("define", Check("d", "t", "n")), ("WrongSort", ())),
            (("define", Check("d", "t", "(less n 1)")), ("WouldSuspend", "t:-", "x")),
            (("drop", "x", "i"), ("UnknownKind", "x")),
            (("drop", "table", "t"), ("UnknownEntry", "t")),
        )
        for command, error in cases:
            self.refused(engine, session, command, error)
        low = engine.open_session(LOW)
        self.refused(engine, low, ("drop", "table", "t"), ("InUse", "check", "c"))
        self.refused(engine, low, ("define", T), ("NameTaken", "t"))

    def test_arguments_of_any_kind(self):
        engine = self.engine(T)
        session = engine.open_session(A)
        entry, odd = Entry("e"), Odd()
        for is_within in (False, True):
            if is_within:
                session.begin()
            for value in every_kind() + [entry, odd]:
                commands = [
                    (("insert", value, []), "UnknownSource", value), (("remove", value, 1), "UnknownSource", value),
                    (("change", value, 1, {}), "UnknownSource", value), (("revert", value, 1), "UnknownSource", value),
                    (("drop", value, "x"), "UnknownKind", value), (("drop", "view", value), "UnknownEntry", value),
                    (("define", value), "InvalidEntry", value), (("remove", "t", value), "NoRow", value),
                    (("change", "t", value, {"n": 1}), "NoRow", value), (("revert", "t", value), "NoEntry", value),
                ]
                for command, name, expected in commands:
                    told = error_of(session.do, command)
                    self.assertEqual(told[0], name)
                    self.assertIs(told[1], expected)
                told = error_of(session.do, ("insert", "t", ["q", value, value, value]))
                self.assertEqual(told[0], "WrongValues")
                self.assertTrue(told[1][0] == "q" and all(part is value for part in told[1][1:]))
        # they are the same again when the transaction is repeated
        self.assertGreater(session.commit(), 300)

    def test_values_that_contain_themselves(self):
        session = self.engine(T).open_session(A)
        ring, deep = [], ()
        ring.append(ring)
        for _ in range(50000):
            deep = (deep,)
        session.begin()
        for value in (ring, deep, {"a": ring}):
            told = error_of(session.do, ("insert", "t", ["x", value, None]))
            self.assertIs(told[1][1], value)
            told = error_of(session.do, ("remove", value, 1))
            self.assertIs(told[1], value)
        self.assertEqual(session.commit(), 6)


class QueriesTest(SessionCase):
    def setUp(self):
        self.made = self.engine(T, VIEW, Index("i", "t", "n"))
        low = self.made.open_session(LOW)
        for key, number in (("x", 1), ("y", 2), ("z", 2), ("w", 3)):
            low.do(("insert", "t", [key, number, None]))
        self.session = self.made.open_session(A)

    def both(self, command, expected):
        """Checks what a command returns outside and within a transaction, that it is new, and that it changes nothing."""
        before = self.state(self.made)
        for is_within in (False, True):
            if is_within:
                self.session.begin()
            for _ in range(2):
                returned = unchanged(self, self.session.do, command)
                self.assertEqual(exact(returned), exact(expected))
                if isinstance(returned, list):
                    returned.append("more")
                elif isinstance(returned, tuple):
                    returned[0].clear()
        self.assertEqual(self.session.commit(), 2)
        self.assertEqual(self.state(self.made), before)

    def test_answers(self):
        self.both(("ask", ASKED), [("w", 3), ("x", 1), ("y", 2), ("z", 2)])
        self.both(("ask", "(select (items (k x.k)) (from (x v)) (where (less x.n 2)))"), [("x",)])
        self.both(("measure", ASKED, None), ([("w", 3), ("x", 1), ("y", 2), ("z", 2)], 4))
        self.both(("measure", "(select (items (k x.k)) (from (x t)) (where (same x.n 1)))", 2), ([("x",)], 2))
        self.both(("explain", ASKED), ["x scan t:- reads 4 matches 4", "estimate 4"])
        self.both(("why", ASKED, 1), [("t:-", "x")])
        self.both(("why", "(select (items (c (count))) (from (x v)) (group))", 0), [("t:-", key) for key in "wxyz"])
        self.both(("suspended",), [])

    def test_suspended(self):
        self.session.do(("define", Check("c", "t", "(less n 2)")))
        self.both(("suspended",), [("t:-", key, LOW, 1, ("check", "c", "a")) for key in "wyz"])
        self.assertEqual(self.made.open_session(LOW).do(("suspended",)), [])

    def test_errors(self):
        not_texts = [value for value in every_kind() if not isinstance(value, str)]
        for value in not_texts:
            for command in (("ask", value), ("measure", value, "x"), ("explain", value), ("why", value, "x")):
                self.assertEqual(error_of(self.session.do, command), ("InvalidText", "string"))
        for text, error in (
            ("x", ("InvalidText", "query")), ("(select)", ("InvalidText", "query")),
            ("(select (items (k x.k)) (from (x u)))", ("UnknownSource", "u")),
            ("(select (items (k x.q)) (from (x t)))", ("UnknownColumn", "x.q")),
            ("(select (items (k (not x.n))) (from (x t)))", ("WrongSort", ("items", 0))),
        ):
            for command in (("ask", text), ("measure", text, -1), ("explain", text), ("why", text, -1)):
                self.refused(self.made, self.session, command, error)

    def test_bounds_and_positions(self):
        self.refused(self.made, self.session, ("measure", ASKED, 3), ("TooDear", 3))
        self.refused(self.made, self.session, ("why", ASKED, 4), ("InvalidCount", 4))
        for value in every_kind():
            if value is None or exact(value)[0] == "int" and value >= 4:
                self.assertEqual(self.session.do(("measure", ASKED, value))[1], 4)
            elif exact(value)[0] == "int" and value >= 0:
                self.assertEqual(error_of(self.session.do, ("measure", ASKED, value)), ("TooDear", value))
            else:
                told = error_of(self.session.do, ("measure", ASKED, value))
                self.assertEqual(told[0], "InvalidCount")
                self.assertIs(told[1], value)
            if not (exact(value)[0] == "int" and 0 <= value < 4):
                told = error_of(self.session.do, ("why", ASKED, value))
                self.assertEqual(told[0], "InvalidCount")
                self.assertIs(told[1], value)

    def test_commands_see_the_own_world(self):
        self.session.do(("insert", "t", ["q", 9, None]))
        self.made.open_session(B).do(("insert", "t", ["r", 9, None]))
        text = "(select (items (k x.k)) (from (x t)) (where (same x.n 9)))"
        told = [self.made.open_session(label).do(("ask", text)) for label in (LOW, A, B, AB)]
        self.assertEqual(told, [[], [("q",)], [("r",)], [("q",), ("r",)]])


class InvalidTest(SessionCase):
    def wrong(self):
        words = ("insert", "change", "remove", "revert", "define", "drop", "ask", "measure", "explain", "why", "suspended")
        sizes = (3, 4, 3, 3, 2, 3, 2, 3, 2, 3, 1)
        rest = {"insert": ("t", ["x", 1, None], "q"), "change": ("t", "x", {}, "q")}
        for word, size in zip(words, sizes):
            parts = (word,) + rest.get(word, ("t", "x", "y", "z"))
            for many in range(1, 5):
                if many != size:
                    yield parts[:many]
            yield list(parts[:size])
            yield (word.upper(),) + parts[1:size]
        for value in every_kind():
            yield value
            yield (value, "t", [])
            if not isinstance(value, (list, tuple)):
                yield ("insert", "t", value)
            if not isinstance(value, dict):
                yield ("change", "t", "x", value)
        for key in (None, 1, True, (), b"n", Label):
            yield ("change", "t", "x", {"n": 1, key: 1})
        yield from [("begin",), ("commit",), ("refresh", "v"), (), ("suspended", None), "suspended", ["suspended"]]

    def test_outside_of_a_transaction(self):
        engine = self.engine(T)
        session = engine.open_session(A)
        before = self.state(engine)
        for value in self.wrong():
            told = error_of(session.do, value)
            self.assertEqual(told[0], "InvalidCommand")
            self.assertIs(told[1], value)
        self.assertEqual(self.state(engine), before)

    def test_within_a_transaction(self):
        engine = self.engine(T)
        session = engine.open_session(A)
        session.begin()
        session.do(("insert", "t", ["x", 1, None]))
        for value in self.wrong():
            told = error_of(session.do, value)
            self.assertEqual(told[0], "InvalidCommand")
            self.assertIs(told[1], value)
        self.assertTrue(session.in_transaction)
        self.assertEqual(session.commit(), 1)

    def test_lists_and_tuples(self):
        session = self.engine(T).open_session(A)
        self.assertEqual(end_of(session.do, ("insert", "t", ("x", 1, None))), ("done", "x"))
        self.assertEqual(end_of(session.do, ("insert", "t", ["y", 1, None])), ("done", "y"))
        self.assertEqual(error_of(session.do, ("insert", "t", ())), ("WrongValues", ()))
        self.assertEqual(error_of(session.do, ("insert", "t", [])), ("WrongValues", ()))


if __name__ == "__main__":
    unittest.main()
