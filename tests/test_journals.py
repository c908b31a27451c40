"""[29], [31]: records of commits, what is safe and durable, and arrivals."""

import random
import unittest

from aboveless.entries import Check, Reference
from aboveless.journals import Keeper
from aboveless.labels import Label
from aboveless.sessions import Engine
from tests.helpers import error_of, every_kind, exact, unchanged
from tests.samples import A, AB, B, LOW, table
from tests.test_commands import SessionCase

T = table("t", "k:text", "n:int?")
U = table("u", "k:int", "p:text?")
DEFINED = [("define", T.told())]
LABELS = (LOW, A, B, AB)


def row(key, number=None, name="t"):
    return ("insert", name, [key, number])


class KeeperCase(SessionCase):
    def keeper(self, *entries, marks=("a", "b")):
        """A keeper with entries at the least label, each a commit of session 0."""
        made = Keeper(*marks)
        session = made.open_session(LOW)
        for entry in entries:
            session.do(("define", entry))
        return made

    def journals(self, keeper):
        return {str(label): list(keeper.records(label)) for label in Label(*keeper.marks).below()}

    def told(self, keeper):
        """All that a keeper tells."""
        labels = list(Label(*keeper.marks).below())
        marks = [(keeper.length(label), keeper.safe(label), keeper.durable(label)) for label in labels]
        return (self.state(keeper), marks, self.journals(keeper))

    def numbers(self, keeper, *expected):
        """Checks length, safe and durable of the labels -, a, b and a+b."""
        for _ in range(2):
            told = [(keeper.length(label), keeper.safe(label), keeper.durable(label)) for label in LABELS]
            self.assertEqual(told, list(expected))

    def fails(self, keeper, call, given, error):
        """Checks an error behind which everything is as it was, twice."""
        before, base = self.told(keeper), keeper.base_copy()
        for _ in range(2):
            self.assertEqual(exact(error_of(call, *given)), exact(error))
            self.assertEqual(self.told(keeper), before)
            self.assertEqual(keeper.base_copy(), base)


class RecordsTest(KeeperCase):
    def test_an_engine(self):
        keeper = Keeper("b", "a", "b")
        self.assertIsInstance(keeper, Engine)
        self.assertEqual(keeper.marks, ("a", "b"))
        self.assertEqual(error_of(Keeper, "a", "B"), ("InvalidName", "B"))
        self.assertEqual(error_of(Keeper, "a", "b", "c", "d", "e"), ("TooMany", "marks", 4))
        self.numbers(keeper, *[(0, 0, 0)] * 4)
        self.assertEqual(self.journals(keeper), {"-": [], "a": [], "b": [], "a+b": []})

    def test_records_of_commits(self):
        keeper = self.keeper(T)
        self.assertEqual(exact(list(keeper.records(LOW))), exact([("record", 1, 0, DEFINED, {})]))
        session, other = keeper.open_session(A), keeper.open_session(A)
        other.do(row("x", 1))
        session.begin()
        session.do(row(None, 2))
        session.do(("remove", "t", "x"))
        session.commit()
        expected = [
            ("record", 1, 1, [("put", "t:-", ("x", 1))], {"-": 1}),
            ("record", 2, 0, [("put", "t:-", ("a.0.0", 2)), ("clear", "t:-", "x")], {"-": 1}),
        ]
        for _ in range(2):
            self.assertEqual(exact(list(keeper.records(label=A))), exact(expected))
        self.assertEqual([keeper.commits(label) for label in LABELS], [1, 2, 0, 0])
        self.assertEqual([keeper.length(label) for label in LABELS], [1, 2, 0, 0])

    def test_what_is_no_commit(self):
        keeper = self.keeper(T)
        session = keeper.open_session(A)
        session.do(("suspended",))
        error_of(session.do, row(1))
        session.begin()
        session.commit()
        session.begin()
        session.do(row("x"))
        session.abandon()
        session.begin()
        session.do(row("x"))
        session.do(("ask", "(select (items (k x.k)) (from (x t)))"))
        keeper.open_session(LOW).do(row("y"))
        self.assertEqual(error_of(session.commit)[0], "ReplayDiffers")
        self.assertEqual(list(keeper.records(A)), [])

    def test_seen(self):
        keeper = self.keeper(T, U)
        low, session, beside, above = [keeper.open_session(label) for label in LABELS]
        session.do(row("x"))
        beside.do(row("y"))
        above.do(row("z"))
        low.do(row("q"))
        beside.do(row("r"))
        above.do(row("s"))
        told = {text: [(record[1], record[4]) for record in records] for text, records in self.journals(keeper).items()}
        self.assertEqual(told, {
            "-": [(1, {}), (2, {}), (3, {})], "a": [(1, {"-": 2})], "b": [(1, {"-": 2}), (2, {"-": 3})],
            "a+b": [(1, {"-": 2, "a": 1, "b": 1}), (2, {"-": 3, "a": 1, "b": 2})],
        })
        self.assertEqual([list(record[4]) for record in keeper.records(AB)], [["-", "a", "b"]] * 2)

    def test_the_order_of_seen(self):
        keeper = Keeper("c", "a", "b")
        session = keeper.open_session(Label("a", "b", "c"))
        session.do(("define", T))
        self.assertEqual(list(list(keeper.records(Label("a", "b", "c")))[0][4]), ["-", "a", "b", "c", "a+b", "a+c", "b+c"])

    def test_a_transaction_sees_the_lengths_of_its_commit(self):
        keeper = self.keeper(T)
        session = keeper.open_session(A)
        session.begin()
        session.do(row("x"))
        keeper.open_session(LOW).do(row("y"))
        session.commit()
        self.assertEqual(list(keeper.records(A)), [("record", 1, 0, [("put", "t:-", ("x", None))], {"-": 2})])

    def test_the_changes_make_the_database(self):
        keeper = self.keeper(T, U)
        session = keeper.open_session(A)
        session.do(("define", Reference("r", "u", "p", "t", rule="empty")))
        session.do(row("x"))
        session.do(row(1, "x", "u"))
        session.do(("remove", "t", "x"))
        session.do(("drop", "reference", "r"))
        self.assertEqual(list(keeper.records(A))[-2][3], [("clear", "t:-", "x"), ("put", "u:-", (1, None))])
        base = Keeper("a", "b").base_copy()
        for text, records in self.journals(keeper).items():
            for record in records:
                base.apply(Label.of_text(text), record[3])
        self.assertEqual(base, keeper.base_copy())

    def test_what_is_told_is_new(self):
        keeper = self.keeper(T)
        keeper.open_session(A).do(row("x"))
        before = self.journals(keeper)
        for record in keeper.records(A):
            record[3].clear()
            record[4].clear()
        self.assertEqual(self.journals(keeper), before)

    def test_records_is_a_generator(self):
        keeper = self.keeper(T)
        records = keeper.records(LOW)
        keeper.open_session(LOW).do(row("x"))
        self.assertEqual(next(records)[1], 1)
        keeper.open_session(LOW).do(row("y"))
        self.assertEqual([record[1] for record in records], [2])
        wrong = keeper.records(Label("c"))
        self.assertEqual(error_of(next, wrong), ("InvalidLabel", Label("c")))

    def test_labels(self):
        keeper = self.keeper(T)
        for value in [value for value in every_kind() if not isinstance(value, Label)] + [Label("c"), Label("a", "c")]:
            calls = [
                lambda: keeper.flush(value), lambda: keeper.length(value), lambda: keeper.safe(value), lambda: keeper.durable(value),
                lambda: list(keeper.records(value)), lambda: keeper.compact(value, "x"), lambda: keeper.arrive(value, "q", [[1]]),
                lambda: keeper.commits(value), lambda: keeper.open_session(value),
            ]
            for call in calls:
                told = error_of(call)
                self.assertEqual(told[0], "InvalidLabel")
                self.assertIs(told[1], value)


class DurableTest(KeeperCase):
    def test_flush(self):
        keeper = self.keeper(T, U)
        self.numbers(keeper, (2, 0, 0), (0, 0, 0), (0, 0, 0), (0, 0, 0))
        for _ in range(2):
            self.assertEqual(keeper.flush(label=LOW), 2)
            self.numbers(keeper, (2, 2, 2), (0, 0, 0), (0, 0, 0), (0, 0, 0))
        keeper.open_session(LOW).do(row("x"))
        self.numbers(keeper, (3, 2, 2), (0, 0, 0), (0, 0, 0), (0, 0, 0))
        self.assertEqual(keeper.flush(A), 0)
        self.assertEqual(keeper.flush(LOW), 3)
        self.numbers(keeper, (3, 3, 3), (0, 0, 0), (0, 0, 0), (0, 0, 0))

    def test_what_lies_below(self):
        keeper = self.keeper(T)
        low, session, beside, above = [keeper.open_session(label) for label in LABELS]
        session.do(row("x"))
        above.do(row("y"))
        beside.do(row("z"))
        low.do(row("q"))
        above.do(row("r"))
        keeper.flush(AB)
        self.numbers(keeper, (2, 0, 0), (1, 0, 0), (1, 0, 0), (2, 2, 0))
        keeper.flush(A)
        self.numbers(keeper, (2, 0, 0), (1, 1, 0), (1, 0, 0), (2, 2, 0))
        keeper.flush(LOW)
        # the second record of a+b has seen that of b, which is not safe
        self.numbers(keeper, (2, 2, 2), (1, 1, 1), (1, 0, 0), (2, 2, 1))
        keeper.flush(B)
        self.numbers(keeper, (2, 2, 2), (1, 1, 1), (1, 1, 1), (2, 2, 2))

    def test_what_is_behind_a_record_that_is_not_durable(self):
        keeper = self.keeper(T)
        keeper.flush(LOW)
        low, session = keeper.open_session(LOW), keeper.open_session(A)
        session.do(row("x"))
        low.do(row("y"))
        session.do(row("z"))
        keeper.flush(A)
        self.numbers(keeper, (2, 1, 1), (2, 2, 1), (0, 0, 0), (0, 0, 0))

    def test_what_is_above_or_beside_makes_no_difference(self):
        keeper = self.keeper(T)
        keeper.open_session(A).do(row("x"))
        keeper.flush(LOW)
        keeper.flush(A)
        for label in (B, AB):
            stranger = keeper.open_session(label)
            stranger.do(row(f"y{label}"))
            self.assertEqual((keeper.durable(A), keeper.durable(LOW)), (1, 1))
            keeper.flush(label)
            self.assertEqual((keeper.durable(A), keeper.durable(LOW)), (1, 1))

    def test_random_journals(self):
        for seed in range(40):
            chance = random.Random(seed)
            keeper = self.keeper(T, marks=("a", "b", "c"))
            labels = list(Label("a", "b", "c").below())
            sessions = [keeper.open_session(label) for label in labels]
            for at in range(30):
                chosen = chance.choice(sessions)
                if chance.random() < 0.3:
                    self.assertEqual(keeper.flush(chosen.label), keeper.length(chosen.label))
                else:
                    chosen.do(row(f"k{at}"))
            journals = self.journals(keeper)

            def is_durable(text, number):
                if number > keeper.safe(Label.of_text(text)):
                    return False
                seen = journals[text][number - 1][4]
                return all(is_durable(lower, at) for lower in seen for at in range(1, seen[lower] + 1))

            for label in labels:
                told = [is_durable(str(label), at + 1) for at in range(keeper.length(label))]
                self.assertEqual(keeper.durable(label), (told + [False]).index(False))


class ArriveTest(KeeperCase):
    def test_rows(self):
        keeper = self.keeper(T, U)
        self.assertEqual(unchanged(self, keeper.arrive, LOW, "t", [["x", 1], ("y", None)]), ["x", "y"])
        self.assertEqual(keeper.arrive(label=A, table="u:-", rows=([7, "q"],)), [7])
        self.assertEqual(exact(list(keeper.records(LOW))[2:]),
                         exact([("record", 3, None, [("put", "t:-", ("x", 1)), ("put", "t:-", ("y", None))], {})]))
        self.assertEqual(exact(list(keeper.records(A))), exact([("record", 1, None, [("put", "u:-", (7, "q"))], {"-": 3})]))
        self.assertEqual([keeper.commits(label) for label in LABELS], [3, 1, 0, 0])
        self.assertEqual(keeper.base_copy().layer(A, "u:-"), {7: (7, "q")})

    def test_keys_that_are_given(self):
        keeper = self.keeper(T)
        self.assertEqual(keeper.arrive(LOW, "t", [[None, 1], ["x", 2], [None, 3]]), ["-.in.2.0", "x", "-.in.2.2"])
        self.assertEqual(keeper.arrive(LOW, "t", [[None, 1]]), ["-.in.3.0"])
        self.assertEqual(keeper.arrive(AB, "t", [[None, 1]]), ["a+b.in.1.0"])
        session = keeper.open_session(AB)
        session.do(row("z"))
        session.do(("suspended",))
        self.assertEqual(keeper.arrive(AB, "t", [["p", 0], [None, 1]]), ["p", "a+b.in.3.1"])
        # they are no numbers of a session
        self.assertEqual(session.do(row(None)), "a+b.0.0")

    def test_no_row(self):
        keeper = self.keeper(T)
        before = self.told(keeper)
        for rows in ([], ()):
            for _ in range(2):
                self.assertEqual(keeper.arrive(LOW, "t", rows), [])
        self.assertEqual(self.told(keeper), before)

    def test_errors(self):
        keeper = self.keeper(T, U, Check("c", "t", "(less n 9)"), Reference("r", "u", "p", "t"))
        keeper.arrive(A, "t", [["x", 1], ["w", 1]])
        keeper.open_session(LOW).do(row("s", 5))
        keeper.open_session(A).do(("define", Check("d", "t", "(less n 5)")))
        keeper.open_session(LOW).do(row("w", 1))
        cases = (
            ("q", [["y", 1]], ("UnknownSource", "q")), (None, [["y", 1]], ("UnknownSource", None)),
            ("t", [["y", True]], ("WrongValues", ("y", True))), ("t", [[None, "1"]], ("WrongValues", (None, "1"))),
            ("t", [[None]], ("WrongValues", (None,))), ("t", [[]], ("WrongValues", ())),
            ("u", [[None, "x"]], ("WrongValues", (None, "x"))), ("t", [["x", 99]], ("Taken", "x")),
            ("t", [[None, 7]], ("Broken", "d", "a.in.3.0")), ("u", [[1, "z"]], ("Missing", "r", "z")),
        )
        for name, rows, error in cases:
            self.fails(keeper, keeper.arrive, (A, name, rows), error)
            if name in ("t", "u"):
                # a later row is refused: nothing is inserted
                later = [["y", 1], ["z", 1]] if name == "t" else [[5, "x"], [6, None]]
                told = ("Broken", "d", "a.in.3.2") if error[0] == "Broken" else error
                if error == ("Missing", "r", "z"):
                    later = later[:1]
                self.fails(keeper, keeper.arrive, (A, name, later + rows), told)

    def test_waiting(self):
        keeper = self.keeper(T)
        keeper.arrive(A, "t", [["x", 7]])
        keeper.open_session(LOW).do(("define", Check("c", "t", "(less n 5)")))
        self.fails(keeper, keeper.arrive, (A, "t", [["x", 1]]), ("Waiting", "x"))

    def test_a_row_may_need_an_earlier_one(self):
        keeper = self.keeper(table("t", "k:text", "p:text?"), Reference("r", "t", "p", "t"))
        self.fails(keeper, keeper.arrive, (LOW, "t", [["x", "y"], ["y", None]]), ("Missing", "r", "y"))
        self.assertEqual(keeper.arrive(LOW, "t", [["y", None], ["x", "y"], [None, "-.in.3.2"]]), ["y", "x", "-.in.3.2"])
        self.fails(keeper, keeper.arrive, (LOW, "t", [["z", None], ["z", None]]), ("Taken", "z"))

    def test_a_given_key_that_is_there(self):
        keeper = self.keeper(T)
        keeper.open_session(LOW).do(row("-.in.3.0"))
        self.fails(keeper, keeper.arrive, (LOW, "t", [[None, 1]]), ("Taken", "-.in.3.0"))

    def test_the_own_world(self):
        keeper = self.keeper(T)
        keeper.open_session(A).do(("define", U))
        keeper.open_session(A).do(row("x"))
        self.fails(keeper, keeper.arrive, (LOW, "u", [[1, None]]), ("UnknownSource", "u"))
        self.fails(keeper, keeper.arrive, (LOW, "u:a", [[1, None]]), ("UnknownSource", "u:a"))
        self.assertEqual(keeper.arrive(LOW, "t", [["x", 5]]), ["x"])
        self.assertEqual(keeper.arrive(AB, "u", [[1, None]]), [1])

    def test_open_transactions_see_it_when_they_commit(self):
        keeper = self.keeper(T)
        session = keeper.open_session(A)
        session.begin()
        session.do(row("x", 1))
        keeper.arrive(A, "t", [["x", 2]])
        self.assertEqual(error_of(session.commit), ("ReplayDiffers", 0, ("done", "x"), ("error", ("Taken", "x"))))

    def test_what_is_returned_is_new(self):
        keeper = self.keeper(T)
        rows = [["x", 1]]
        keeper.arrive(LOW, "t", rows).clear()
        rows[0].clear()
        self.assertEqual(list(keeper.records(LOW))[1][3], [("put", "t:-", ("x", 1))])


if __name__ == "__main__":
    unittest.main()
