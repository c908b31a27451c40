"""[27], [20], [4]: transactions, commits by repeating, the numbers that are given, and what serial ones would tell."""

import random
import unittest

from aboveless.entries import Check, Index, Reference, Table, View
from aboveless.errors import ReplayDiffers
from aboveless.sessions import Engine
from tests.helpers import end_of, error_of, exact
from tests.samples import A, AB, B, LOW, table
from tests.test_commands import SessionCase

T = table("t", "k:text", "n:int?")
U = table("u", "k:int", "p:text?")
VIEW = View("v", "(select (items (k x.k)) (from (x t)))")
ASKED = "(select (items (k x.k) (n x.n)) (from (x t)))"
ASK = ("ask", ASKED)


def put(key, number=None, name="t"):
    return ("insert", name, [key, number])


class TransactionCase(SessionCase):
    def sessions(self, *labels, entries=(T,)):
        engine = self.engine(*entries)
        return (engine,) + tuple(engine.open_session(label) for label in labels)

    def differs(self, session, position, was, now):
        """Checks that a commit is refused, that nothing has changed but that the transaction has ended."""
        engine = session._engine
        before = (engine.base_copy(), self.state(engine))
        self.assertTrue(session.in_transaction)
        self.assertEqual(exact(error_of(session.commit)), exact(("ReplayDiffers", position, was, now)))
        self.assertFalse(session.in_transaction)
        self.assertEqual((engine.base_copy(), self.state(engine)), before)
        self.assertEqual(error_of(session.commit), ("NoTransaction", session.session_number))


class StatesTest(TransactionCase):
    def test_begin_commit_abandon(self):
        engine, first, session = self.sessions(A, A)
        for call in (session.commit, session.abandon):
            self.assertEqual(error_of(call), ("NoTransaction", 1))
        for call, expected in ((session.commit, 0), (session.abandon, None)):
            self.assertIsNone(session.begin())
            self.assertTrue(session.in_transaction)
            self.assertFalse(first.in_transaction)
            for _ in range(2):
                self.assertEqual(error_of(session.begin), ("InTransaction", 1))
            self.assertTrue(session.in_transaction)
            self.assertEqual(call(), expected)
            self.assertFalse(session.in_transaction)
            self.assertEqual(error_of(session.abandon), ("NoTransaction", 1))

    def test_commit_returns_the_number_of_commands(self):
        engine, session = self.sessions(A)
        session.begin()
        session.do(put("x"))
        error_of(session.do, put("x"))
        error_of(session.do, "no command")
        session.do(ASK)
        self.assertEqual(session.commit(), 3)

    def test_commits_are_counted_by_changes(self):
        engine, low, session, other = self.sessions(LOW, A, A)
        self.assertEqual([engine.commits(label) for label in (LOW, A, B, AB)], [1, 0, 0, 0])
        session.begin()
        self.assertEqual(session.commit(), 0)
        session.begin()
        session.do(ASK)
        session.do(("suspended",))
        self.assertEqual(session.commit(), 2)
        self.assertEqual(engine.commits(A), 0)
        session.begin()
        session.do(put("x"))
        session.do(put("y"))
        self.assertEqual(engine.commits(A), 0)
        session.commit()
        self.assertEqual(engine.commits(A), 1)
        # two changes that leave nothing are changes
        other.begin()
        other.do(put("z"))
        other.do(("remove", "t", "z"))
        other.commit()
        session.do(("change", "t", "x", {}))
        session.do(("change", "t", "x", {"n": None}))
        low.do(put("q"))
        self.assertEqual([engine.commits(label) for label in (LOW, A, B, AB)], [2, 3, 0, 0])

    def test_what_is_kept_of_commands_is_copied(self):
        engine, session = self.sessions(A, entries=(T, VIEW))
        values, columns, entry = ["x", 1], {"n": 2}, Table("w", [("k", "int", False)])
        session.begin()
        session.do(("insert", "t", values))
        session.do(("change", "t", "x", columns))
        session.do(("define", entry))
        returned = session.do(ASK)
        for given in (values, columns, returned):
            given.clear()
        entry.name, entry.column_list = "z", ()
        self.assertEqual(session.commit(), 4)
        base = engine.base_copy()
        self.assertEqual(base.layer(A, "t:-"), {"x": ("x", 2)})
        self.assertEqual(base.entries(A), [("table", "w", (("k", "int", False),))])


class ViewsTest(TransactionCase):
    """What a transaction sees."""

    def test_the_database_of_the_beginning(self):
        engine, low, session, beside, above = self.sessions(LOW, A, B, AB)
        low.do(put("x", 1))
        session.begin()
        low.do(put("y", 1))
        self.assertEqual(session.do(ASK), [("x", 1)])
        low.do(("change", "t", "x", {"n": 5}))
        self.assertEqual(session.do(ASK), [("x", 1)])
        self.assertEqual(session.do(("measure", ASKED, None)), ([("x", 1)], 1))
        session.abandon()
        self.assertEqual(session.do(ASK), [("x", 5), ("y", 1)])

    def test_the_own_writes(self):
        engine, low, session, other, above = self.sessions(LOW, A, A, AB)
        session.begin()
        self.assertEqual(session.do(put(None, 7)), "a.0.0")
        self.assertEqual(session.do(ASK), [("a.0.0", 7)])
        session.do(("define", Check("c", "t", "(less n 8)")))
        self.assertEqual(error_of(session.do, put("y", 8)), ("Broken", "c", "y"))
        for outside in (low, other, above):
            self.assertEqual(outside.do(ASK), [])
        self.assertEqual(other.do(put("y", 8)), "y")
        self.assertEqual(engine.base_copy().entries(A), [])
        other.do(("remove", "t", "y"))
        session.commit()
        self.assertEqual([outside.do(ASK) for outside in (low, other, above)], [[], [("a.0.0", 7)], [("a.0.0", 7)]])
        self.assertEqual(engine.base_copy().entries(A), [("check", "c", "t:-", "(less n 8)")])

    def test_abandoned_writes(self):
        engine, session = self.sessions(A)
        before = self.state(engine)
        session.begin()
        session.do(put("x", 1))
        session.do(("define", U))
        session.abandon()
        self.assertEqual(self.state(engine), before)
        self.assertEqual(session.do(ASK), [])

    def test_several_transactions_at_a_time(self):
        engine, first, second, third = self.sessions(A, A, B)
        for session in (first, second, third):
            session.begin()
        self.assertEqual([session.do(put("x", at)) for at, session in enumerate((first, second, third))], ["x"] * 3)
        self.assertEqual(third.commit(), 1)
        self.assertEqual(second.commit(), 1)
        self.differs(first, 0, ("done", "x"), ("error", ("Taken", "x")))
        self.assertEqual([session.do(ASK) for session in (first, second, third)], [[("x", 1)], [("x", 1)], [("x", 2)]])


class ReplayTest(TransactionCase):
    def test_what_others_did_meanwhile(self):
        engine, low, session, other, beside, above = self.sessions(LOW, A, A, B, AB)
        for others, text in (((beside, above), "(less 0 1)"), ((low, other, beside, above), "(same x.k 'q')")):
            session.begin()
            session.do(("ask", f"(select (items (k x.k)) (from (x t)) (where {text}))"))
            session.do(put(None, 1))
            for at, stranger in enumerate(others):
                stranger.do(put(f"s{at}{len(others)}", at))
            self.assertEqual(session.commit(), 2)
        self.assertEqual(session.do(ASK)[:2], [("a.0.0", 1), ("a.0.1", 1)])

    def test_commits_beside_and_above_make_no_difference(self):
        engine, session, beside, above = self.sessions(A, B, AB, entries=(T, U))
        session.begin()
        told = [session.do(command) for command in (ASK, ("suspended",), ("explain", ASKED), put("x", 1))]
        for at, stranger in enumerate((above, beside)):
            stranger.do(put("x", 2))
            stranger.do(put(9, None, "u"))
            stranger.do(("define", (Check("c", "t", "(less n 5)"), Index("i", "t", "n"))[at]))
        self.assertEqual(session.commit(), 4)
        self.assertEqual(told, [[], [], ["x scan t:- reads 0 matches 0", "estimate 0"], "x"])

    def test_different_answers(self):
        engine, low, session = self.sessions(LOW, A)
        session.begin()
        session.do(put("x", 1))
        session.do(ASK)
        session.do(put("y", 1))
        low.do(put("q", 5))
        self.differs(session, 1, ("done", [("x", 1)]), ("done", [("q", 5), ("x", 1)]))

    def test_each_query(self):
        commands = (
            (("measure", ASKED, None), ([("x", 1)], 1), ([("q", 5), ("x", 1)], 2)),
            (("explain", ASKED), ["x scan t:- reads 1 matches 1", "estimate 1"], ["x scan t:- reads 2 matches 2", "estimate 2"]),
            (("why", ASKED, 0), [("t:-", "x")], [("t:-", "q")]),
        )
        for command, was, now in commands:
            engine, low, session = self.sessions(LOW, A)
            low.do(put("x", 1))
            session.begin()
            self.assertEqual(session.do(command), was)
            low.do(put("q", 5))
            self.differs(session, 0, ("done", was), ("done", now))

    def test_suspended(self):
        engine, low, session = self.sessions(LOW, A, entries=(T, U))
        session.do(("define", Reference("r", "t", "k", "t")))
        low.do(("define", Check("c", "t", "(less n 5)")))
        session.do(put("x", 1))
        session.begin()
        self.assertEqual(session.do(("suspended",)), [])
        low.do(("drop", "check", "c"))
        low.do(("define", Check("c", "t", "(less n 1)")))
        self.differs(session, 0, ("done", []), ("done", [("t:-", "x", A, 1, ("check", "c", "-"))]))
        session.begin()
        session.do(("suspended",))
        low.do(("drop", "check", "c"))
        low.do(("define", Check("d", "t", "(less n 1)")))
        self.differs(session, 0, ("done", [("t:-", "x", A, 1, ("check", "c", "-"))]), ("done", [("t:-", "x", A, 1, ("check", "d", "-"))]))

    def test_labels_of_suspended_rows(self):
        engine, low, middle, session = self.sessions(LOW, A, AB)
        session.do(("define", Check("c", "t", "(less n 1)")))
        low.do(put("x", 5))
        session.begin()
        session.do(("suspended",))
        middle.do(("change", "t", "x", {"n": 5}))
        self.differs(session, 0, ("done", [("t:-", "x", LOW, 1, ("check", "c", "a+b"))]),
                     ("done", [("t:-", "x", A, 1, ("check", "c", "a+b"))]))

    def test_one_and_true_differ(self):
        engine, low, session = self.sessions(LOW, A)
        low.do(put("x", 1))
        for text in (ASKED, "(select (items (n x.n)) (from (x t)))"):
            session.begin()
            session.do(("ask", text))
            low.do(("drop", "table", "t"))
            low.do(("define", table("t", "k:text", "n:truth?")))
            low.do(put("x", True))
            was, now = [("x", 1), ("x", True)] if text == ASKED else [(1,), (True,)]
            self.differs(session, 0, ("done", [was]), ("done", [now]))
            low.do(("drop", "table", "t"))
            low.do(("define", T))
            low.do(put("x", 1))

    def test_one_and_true_differ_in_errors(self):
        engine, low, session = self.sessions(LOW, A)
        # the wrong values are the same ones, so nothing differs
        session.begin()
        error_of(session.do, put("x", True))
        error_of(session.do, put("x", "1"))
        low.do(put("y", 1))
        self.assertEqual(session.commit(), 2)

    def test_errors_by_name_and_attributes(self):
        engine, low, session = self.sessions(LOW, A, entries=(T, Check("c", "t", "(less n 5)"), Check("d", "t", "(less n 9)")))
        session.begin()
        self.assertEqual(error_of(session.do, put("x", 9)), ("Broken", "c", "x"))
        low.do(put("y", 1))
        self.assertEqual(session.commit(), 1)
        for was, change, now in (
            (("Broken", "c", "x"), ("drop", "check", "c"), ("Broken", "d", "x")),
            (("Broken", "d", "x"), ("drop", "check", "d"), None),
        ):
            session.begin()
            self.assertEqual(error_of(session.do, put("x", 9)), was)
            low.do(change)
            self.differs(session, 0, ("error", was), ("done", "x") if now is None else ("error", now))
        session.begin()
        self.assertEqual(session.do(put("x", 9)), "x")
        low.do(("drop", "table", "t"))
        self.differs(session, 0, ("done", "x"), ("error", ("UnknownSource", "t")))

    def test_wrong_values_in_another_sequence(self):
        engine, low, session = self.sessions(LOW, A, entries=(table("t", "k:text", "n:int?", "m:int?"),))
        low.do(("insert", "t", ["x", 1, 2]))
        session.begin()
        error_of(session.do, ("change", "t", "x", {"m": "1", "n": "1"}))
        low.do(("drop", "table", "t"))
        low.do(("define", table("t", "k:text", "m:int?", "n:int?")))
        low.do(("insert", "t", ["x", 1, 2]))
        self.differs(session, 0, ("error", ("WrongValues", (("n", "1"), ("m", "1")))), ("error", ("WrongValues", (("m", "1"), ("n", "1")))))

    def test_done_and_error(self):
        engine, low, session = self.sessions(LOW, A)
        session.begin()
        self.assertEqual(error_of(session.do, ("remove", "t", "x")), ("NoRow", "x"))
        low.do(put("x", 1))
        self.differs(session, 0, ("error", ("NoRow", "x")), ("done", [("t:-", "x")]))
        self.assertEqual(session.do(ASK), [("x", 1)])

    def test_none_is_done(self):
        engine, low, session = self.sessions(LOW, A)
        low.do(put("x", 1))
        session.begin()
        self.assertIsNone(session.do(("change", "t", "x", {"n": 2})))
        low.do(("remove", "t", "x"))
        self.differs(session, 0, ("done", None), ("error", ("NoRow", "x")))

    def test_the_first_difference(self):
        engine, low, session = self.sessions(LOW, A)
        session.begin()
        for key in "abc":
            session.do(put(key))
        low.do(put("c"))
        low.do(put("b"))
        self.differs(session, 1, ("done", "b"), ("error", ("Taken", "b")))
        self.assertEqual(session.do(ASK), [("b", None), ("c", None)])

    def test_the_changes_of_the_second_performance(self):
        engine, low, session = self.sessions(LOW, A)
        low.do(put("x", 1))
        session.begin()
        session.do(("remove", "t", "x"))
        # the row is gone below: now there is nothing to mark
        low.do(("remove", "t", "x"))
        session_two = engine.open_session(A)
        session_two.do(put("x", 3))
        self.assertEqual(session.commit(), 1)
        self.assertEqual(engine.base_copy().layer(A, "t:-"), {})
        session.begin()
        session.do(put("y", 1))
        session.do(("remove", "t", "y"))
        self.assertEqual(engine.base_copy().layer(A, "t:-"), {})
        session.commit()
        self.assertEqual(engine.base_copy().layer(A, "t:-"), {})

    def test_a_changed_row_keeps_what_others_changed(self):
        engine, low, session = self.sessions(LOW, A, entries=(table("t", "k:text", "n:int?", "m:int?"),))
        low.do(("insert", "t", ["x", 1, 2]))
        session.begin()
        session.do(("change", "t", "x", {"n": 9}))
        low.do(("change", "t", "x", {"m": 8}))
        session.commit()
        self.assertEqual(engine.base_copy().layer(A, "t:-"), {"x": ("x", 9, 8)})

    def test_the_error_keeps_both_outcomes(self):
        engine, low, session = self.sessions(LOW, A)
        session.begin()
        session.do(ASK).append("more")
        low.do(put("x", 1))
        with self.assertRaises(ReplayDiffers) as caught:
            session.commit()
        told = caught.exception
        self.assertEqual((told.position, told.was, told.now), (0, ("done", []), ("done", [("x", 1)])))


class NumbersTest(TransactionCase):
    def test_outside_of_transactions(self):
        engine, session, other, low = self.sessions(A, A, LOW)
        self.assertEqual([session.do(put(None)), session.do(put(None)), other.do(put(None)), low.do(put(None))],
                         ["a.0.0", "a.0.1", "a.1.0", "-.1.0"])
        self.assertEqual((session.given, other.given, low.given), (2, 1, 1))
        self.assertEqual(error_of(session.do, put(None, "x")), ("WrongValues", (None, "x")))
        self.assertEqual(session.given, 2)
        session.do(("remove", "t", "a.0.1"))
        self.assertEqual(session.do(put(None)), "a.0.2")
        session.do(ASK)
        session.do(put("x"))
        self.assertEqual(session.given, 3)

    def test_within_a_transaction(self):
        engine, session = self.sessions(A)
        session.do(put(None))
        session.begin()
        self.assertEqual(session.given, 1)
        self.assertEqual(session.do(put(None)), "a.0.1")
        self.assertEqual(session.given, 2)
        error_of(session.do, put(None, True))
        self.assertEqual(session.given, 2)
        self.assertEqual(session.do(put(None)), "a.0.2")
        self.assertEqual(session.given, 3)
        session.commit()
        self.assertEqual(session.given, 3)
        self.assertEqual(session.do(put(None)), "a.0.3")

    def test_given_again(self):
        engine, low, session = self.sessions(LOW, A)
        session.do(put(None))
        for end in ("abandon", "refused"):
            session.begin()
            self.assertEqual([session.do(put(None)), session.do(put(None))], ["a.0.1", "a.0.2"])
            self.assertEqual(session.given, 3)
            if end == "abandon":
                session.abandon()
            else:
                session.do(ASK)
                low.do(put("q"))
                self.assertEqual(error_of(session.commit)[0], "ReplayDiffers")
            self.assertEqual(session.given, 1)
        self.assertEqual(session.do(put(None)), "a.0.1")

    def test_numbers_that_are_taken(self):
        engine, low, session, other = self.sessions(LOW, A, A)
        low.do(put("a.0.0"))
        other.do(put("a.0.2"))
        self.assertEqual([session.do(put(None)), session.given], ["a.0.1", 2])
        self.assertEqual([session.do(put(None)), session.given], ["a.0.3", 4])

    def test_a_number_that_is_taken_meanwhile(self):
        engine, low, session = self.sessions(LOW, A)
        session.begin()
        self.assertEqual(session.do(put(None)), "a.0.0")
        low.do(put("a.0.0"))
        self.differs(session, 0, ("done", "a.0.0"), ("done", "a.0.1"))
        self.assertEqual(session.given, 0)

    def test_a_number_above_is_not_seen(self):
        engine, session, above, beside = self.sessions(A, AB, B)
        above.do(put("a.0.0"))
        beside.do(put("a.0.0"))
        self.assertEqual(session.do(put(None)), "a.0.0")

    def test_numbers_of_errors_are_not_given(self):
        engine, session = self.sessions(A, entries=(T, Check("c", "t", "(filled n)")))
        session.begin()
        self.assertEqual(session.do(put(None, 9)), "a.0.0")
        self.assertEqual(error_of(session.do, put(None, None)), ("Broken", "c", "a.0.1"))
        self.assertEqual(session.given, 1)
        self.assertEqual(session.do(put(None, 9)), "a.0.1")
        self.assertEqual(session.commit(), 3)
        self.assertEqual(session.given, 2)


def random_command(chance):
    key = chance.choice(["a", "b", "c", "d", "a.0.0", "-.1.0"])
    number = chance.choice([None, 0, 1, 2])
    reference = Reference("r", "t", "n", "u", rule=chance.choice(["restrict", "cascade", "empty"]))
    return chance.choice([
        put(key, number), put(key, number), put(None, number), put(chance.randint(0, 2), key, "u"),
        ("change", "t", key, {"n": number}), ("remove", "t", key), ("remove", "u", chance.randint(0, 2)),
        ("revert", "t", key), ("define", chance.choice([Check("c", "t", "(less n 2)"), Index("i", "t", "n"), reference])),
        ("drop", *chance.choice([("check", "c"), ("index", "i"), ("reference", "r")])),
        ASK, ("ask", "(select (items (c (count))) (from (x t) (y u)) (group))"), ("suspended",),
        ("measure", "(select (items (k x.k)) (from (x t)) (where (same x.n 1)))", chance.choice([None, 3])),
    ])


class SerialTest(TransactionCase):
    """[4]: performing the commits one after another, without anything else in between, tells the same."""

    def setup_engine(self):
        engine = self.engine(T, U)
        return engine, {name: engine.open_session(label) for name, label in
                        (("p", LOW), ("q", A), ("r", A), ("s", B), ("t", AB))}

    def test_random_sessions(self):
        refused = committed = 0
        for seed in range(60):
            chance = random.Random(seed)
            engine, sessions = self.setup_engine()
            open_ones, serial = {}, []
            for _ in range(60):
                name = chance.choice(sorted(sessions))
                session = sessions[name]
                if name not in open_ones and chance.random() < 0.3:
                    session.begin()
                    open_ones[name] = []
                elif name in open_ones and chance.random() < 0.25:
                    commands = open_ones.pop(name)
                    if chance.random() < 0.2:
                        session.abandon()
                    elif error_of(session.commit) is None:
                        serial.append((name, commands))
                        committed += 1
                    else:
                        refused += 1
                else:
                    command = random_command(chance)
                    told = end_of(session.do, command)
                    if name in open_ones:
                        open_ones[name].append((command, told))
                    else:
                        serial.append((name, [(command, told)]))
            again, others = self.setup_engine()
            for name, commands in serial:
                for command, told in commands:
                    self.assertEqual(exact(end_of(others[name].do, command)), exact(told), (seed, name, command))
            self.assertEqual(again.base_copy(), engine.base_copy())
            self.worlds_below(engine, serial, {name: session.label for name, session in sessions.items()})
        self.assertGreater(min(refused, committed), 40)

    def worlds_below(self, engine, serial, labels):
        """For each label, those below it alone give its world and are told the same."""
        for label in (LOW, A, B):
            alone, others = self.setup_engine()
            for name, commands in serial:
                if labels[name].is_below(label):
                    for command, told in commands:
                        self.assertEqual(exact(end_of(others[name].do, command)), exact(told))
            self.assertEqual(alone.base_copy().world(label), engine.base_copy().world(label))

    def test_refusals_are_needed(self):
        """A refused commit has a command that is answered differently when it is performed now."""
        for seed in range(60):
            chance = random.Random(seed)
            engine, low, session = self.sessions(LOW, A, entries=(T, U))
            session.begin()
            commands = [random_command(chance) for _ in range(4)]
            told = [end_of(session.do, command) for command in commands]
            for _ in range(3):
                end_of(low.do, random_command(chance))
            again = Engine("a", "b")
            again.restart(engine.base_copy(), {}, {})
            error = error_of(session.commit)
            other = again.open_session(A)
            other.begin()
            now = [end_of(other.do, command) for command in commands]
            different = [at for at in range(4) if exact(told[at]) != exact(now[at])]
            if error is None:
                self.assertEqual(different, [])
            else:
                self.assertEqual(exact(error), exact(("ReplayDiffers", different[0], told[different[0]], now[different[0]])))


if __name__ == "__main__":
    unittest.main()
