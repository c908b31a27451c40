"""[29]: crashes, recovery, and base records."""

import random
import unittest

from aboveless.base import Base
from aboveless.entries import Check, Index, View
from aboveless.journals import Keeper
from aboveless.labels import Label
from tests.helpers import error_of, every_kind, exact, unchanged
from tests.samples import A, AB, B, LOW
from tests.test_journals import KeeperCase, T, U, row

VIEW = View("v", "(select (items (k x.k)) (from (x t)))")
ABC = Label("a", "b", "c")


class CrashTest(KeeperCase):
    def filled(self):
        """A keeper with two records of - that are safe and one more, two of a, and one of a+b that has seen all."""
        keeper = self.keeper(T, U)
        keeper.flush(LOW)
        low, session, beside, above = [keeper.open_session(label) for label in (LOW, A, B, AB)]
        session.do(row("x", 1))
        low.do(row("q", 1))
        session.do(row("y", 1))
        above.do(row("z", 1))
        return keeper

    def crashes(self, keeper, kept, *expected):
        """Checks what a crash keeps of -, a, b and a+b: in what it returns, and in all that is told behind it."""
        before = self.journals(keeper)
        returned = unchanged(self, keeper.crash, kept) if kept is not None else keeper.crash()
        self.assertEqual(list(returned.items()), list(zip(("-", "a", "b", "a+b"), expected)))
        self.numbers(keeper, *[(number,) * 3 for number in expected])
        self.assertEqual([keeper.commits(label) for label in (LOW, A, B, AB)], list(expected))
        base = Base("a", "b")
        for text, records in before.items():
            left = [record for record in records if record[1] <= returned[text]]
            self.assertEqual(exact(list(keeper.records(Label.of_text(text)))), exact(left))
            for record in left:
                base.apply(Label.of_text(text), record[3])
        self.assertEqual(keeper.base_copy(), base)

    def test_all_is_kept(self):
        self.crashes(self.filled(), None, 3, 2, 0, 1)
        self.crashes(self.filled(), {}, 3, 2, 0, 1)
        self.crashes(self.filled(), {"-": 3, "a": 2, "b": 0, "a+b": 1}, 3, 2, 0, 1)
        self.crashes(self.filled(), {"-": 99, "b": 10 ** 39, "a+b": 2}, 3, 2, 0, 1)
        self.assertEqual(list(self.filled().crash(kept={"a": 1}).values()), [3, 1, 0, 0])

    def test_some_is_kept(self):
        self.crashes(self.filled(), {"a+b": 0}, 3, 2, 0, 0)
        self.crashes(self.filled(), {"a": 1}, 3, 1, 0, 0)
        self.crashes(self.filled(), {"a": 0}, 3, 0, 0, 0)

    def test_what_has_seen_what_is_lost_is_lost(self):
        self.crashes(self.filled(), {"-": 2}, 2, 1, 0, 0)
        keeper = self.filled()
        keeper.flush(A)
        keeper.flush(AB)
        # safe, but not durable
        self.assertEqual([keeper.durable(label) for label in (LOW, A, AB)], [2, 1, 0])
        self.crashes(keeper, {"-": 2}, 2, 1, 0, 0)

    def test_at_least_the_safe_ones(self):
        self.crashes(self.filled(), {"-": 0}, 2, 1, 0, 0)
        self.crashes(self.filled(), {"-": 0, "a": 0, "b": 0, "a+b": 0}, 2, 0, 0, 0)
        keeper = self.filled()
        for label in (LOW, A, AB):
            keeper.flush(label)
        self.crashes(keeper, {"-": 0, "a": 0, "b": 0, "a+b": 0}, 3, 2, 0, 1)

    def test_nothing_below_is_safe(self):
        keeper = self.keeper(T, U)
        keeper.open_session(A).do(row("x"))
        self.crashes(keeper, {"-": 0}, 0, 0, 0, 0)
        self.assertEqual(keeper.base_copy(), Base("a", "b"))

    def test_an_empty_keeper(self):
        for kept in (None, {"-": 5, "a": 0}):
            self.crashes(Keeper("a", "b"), kept, 0, 0, 0, 0)
        self.assertEqual(Keeper().crash(), {"-": 0})

    def test_again_and_again(self):
        keeper = self.filled()
        self.crashes(keeper, {"a": 1}, 3, 1, 0, 0)
        self.crashes(keeper, {"-": 0, "a": 0}, 3, 1, 0, 0)
        keeper.open_session(B).do(row("p"))
        keeper.open_session(A).do(row("p"))
        self.assertEqual(list(keeper.records(A))[1:], [("record", 2, 1, [("put", "t:-", ("p", None))], {"-": 3})])
        self.crashes(keeper, {"b": 0}, 3, 2, 0, 0)

    def test_errors(self):
        keeper = self.filled()
        for value in every_kind():
            try:
                hash(value)
            except (TypeError, RuntimeError):
                continue
            if value not in ("-", "a", "b", "a+b"):
                told = error_of(keeper.crash, {"-": "x", value: 1})
                self.assertEqual(told[0], "InvalidLabel")
                self.assertIs(told[1], value)
        for key in ("b+a", "a+a", "c", "a+c", "", "a+b+c"):
            self.fails(keeper, keeper.crash, ({key: 0},), ("InvalidLabel", key))
        for value in every_kind():
            if exact(value)[0] != "int" or value < 0:
                told = error_of(keeper.crash, {"a": value})
                self.assertEqual(told[0], "InvalidCount")
                self.assertIs(told[1], value)
        self.fails(keeper, keeper.crash, ({"a+b": "x", "b": "y", "a": 5, "-": 0},), ("InvalidCount", "y"))
        self.fails(keeper, keeper.crash, ({"a+b": -1, "a": True},), ("InvalidCount", True))
        session = keeper.open_session(A)
        session.begin()
        error_of(keeper.crash, {"a": -1})
        self.assertTrue(session.in_transaction)
        self.assertEqual(session.do(row("w")), "w")

    def test_what_is_returned_is_new(self):
        keeper = self.filled()
        keeper.crash().clear()
        self.assertEqual(keeper.crash(), {"-": 3, "a": 2, "b": 0, "a+b": 1})
        self.assertEqual([keeper.commits(A), keeper.length(A)], [2, 2])


class BehindCrashTest(KeeperCase):
    def test_sessions_have_ended(self):
        keeper = self.keeper(T, VIEW)
        session, other = keeper.open_session(A), keeper.open_session(A)
        session.begin()
        other.refresh("v")
        keeper.crash()
        calls = (
            lambda: session.begin(), lambda: session.do(("suspended",)), lambda: session.do(5), lambda: session.commit(),
            lambda: session.abandon(), lambda: session.refresh("q"), lambda: session.memo(None), lambda: session.forget("v"),
        )
        for _ in range(2):
            for call in calls:
                self.assertEqual(error_of(call), ("SessionEnded", 0))
            for call in (other.begin, other.commit, other.abandon):
                self.assertEqual(error_of(call), ("SessionEnded", 1))
        self.assertEqual((session.label, session.session_number, other.session_number), (A, 0, 1))
        fresh = keeper.open_session(A)
        self.assertEqual(error_of(session.begin), ("SessionEnded", 0))
        fresh.begin()
        self.assertFalse(other.session_number == 0)

    def test_memos_are_lost(self):
        keeper = self.keeper(T, VIEW)
        keeper.open_session(LOW).do(row("x"))
        keeper.open_session(A).refresh("v")
        keeper.crash()
        session = keeper.open_session(A)
        self.assertEqual(error_of(session.memo, "v"), ("NoMemo", "v"))
        self.assertEqual(session.refresh("v"), 1)

    def test_open_transactions_are_lost(self):
        keeper = self.keeper(T)
        session = keeper.open_session(A)
        session.begin()
        session.do(row("x"))
        keeper.crash()
        self.assertEqual(keeper.base_copy().layer(A, "t:-"), {})

    def test_numbers_of_sessions(self):
        keeper = self.keeper(T)
        sessions = [keeper.open_session(A) for _ in range(5)]
        self.assertEqual(keeper.crash()["a"], 0)
        self.assertEqual(keeper.open_session(A).session_number, 0)
        keeper.crash()
        sessions = [keeper.open_session(A) for _ in range(5)]
        for number in (3, 1, 0):
            sessions[number].do(row(f"k{number}"))
        self.assertEqual(keeper.crash({"a": 2})["a"], 2)
        self.assertEqual([keeper.open_session(A).session_number for _ in range(2)], [4, 5])
        # the greatest in what is kept, which may be less than before
        keeper.open_session(A).do(row("z"))
        self.assertEqual(list(keeper.records(A))[-1][2], 6)
        keeper.crash({"a": 2})
        self.assertEqual(keeper.open_session(A).session_number, 4)
        self.assertEqual(keeper.open_session(B).session_number, 0)

    def test_arrivals_have_no_session(self):
        keeper = self.keeper(T)
        keeper.arrive(A, "t", [["x", 1]])
        keeper.crash()
        self.assertEqual(keeper.open_session(A).session_number, 0)
        self.assertEqual(keeper.open_session(LOW).session_number, 1)
        keeper.open_session(A).do(row("y"))
        keeper.arrive(A, "t", [["z", 1]])
        keeper.crash()
        self.assertEqual(keeper.open_session(A).session_number, 2)

    def test_numbers_of_commits(self):
        keeper = self.keeper(T)
        session = keeper.open_session(A)
        for key in "xyz":
            session.do(row(key))
        self.assertEqual(keeper.crash({"a": 1})["a"], 1)
        self.assertEqual(keeper.commits(A), 1)
        self.assertEqual(keeper.arrive(A, "t", [[None, 1]]), ["a.in.2.0"])
        keeper.open_session(A).do(row("y"))
        self.assertEqual([record[1] for record in keeper.records(A)], [1, 2, 3])
        self.assertEqual((keeper.commits(A), keeper.length(A), keeper.safe(A)), (3, 3, 1))

    def test_numbers_of_rows(self):
        keeper = self.keeper(T)
        self.assertEqual(keeper.open_session(A).do(row(None)), "a.0.0")
        self.assertEqual(keeper.crash({"a": 0})["a"], 0)
        session = keeper.open_session(A)
        self.assertEqual((session.given, session.do(row(None))), (0, "a.0.0"))
        keeper.crash()
        session = keeper.open_session(A)
        self.assertEqual((session.session_number, session.given, session.do(row(None))), (1, 0, "a.1.0"))

    def test_what_is_not_below_makes_no_difference(self):
        for strangers in (False, True):
            keeper = self.keeper(T)
            keeper.flush(LOW)
            session = keeper.open_session(A)
            session.do(row("x"))
            if strangers:
                keeper.open_session(B).do(row("y"))
                keeper.open_session(AB).do(row("z"))
                keeper.flush(AB)
            session.do(row("w"))
            told = keeper.crash({"a": 1, "b": 0} if strangers else {"a": 1})
            self.assertEqual((told["-"], told["a"]), (1, 1))
            self.assertEqual(keeper.open_session(A).session_number, 1)


class CompactTest(KeeperCase):
    def test_the_base_record(self):
        keeper = self.keeper(U, T)
        session, other = keeper.open_session(A), keeper.open_session(A)
        session.do(("define", Index("i", "t", "n")))
        other.do(("define", Check("c", "t", "(less n 9)")))
        session.do(row("y", 1))
        session.do(row("x", 2))
        session.do(row(10, "x", "u"))
        session.do(row(9, None, "u"))
        keeper.open_session(LOW).do(row("q", 5))
        session.do(("remove", "t", "q"))
        session.do(("remove", "t", "y"))
        session.do(("drop", "index", "i"))
        session.do(("define", VIEW))
        session.do(row("z", 3))
        keeper.flush(A)
        keeper.flush(LOW)
        before, base = self.told(keeper), keeper.base_copy()
        self.assertIsNone(keeper.compact(A, 10))
        expected = ("base", 10, 1, [
            ("define", ("check", "c", "t:-", "(less n 9)")), ("define", ("view", "v", "(select (items (k x.k)) (from (x t:-)))")),
            ("gone", "t:-", "q"), ("put", "t:-", ("x", 2)), ("put", "u:-", (9, None)), ("put", "u:-", (10, "x")),
        ], {"-": 3})
        self.assertEqual(exact(list(keeper.records(A))), exact([expected, before[2]["a"][10]]))
        self.assertEqual(self.told(keeper)[:2], before[:2])
        self.assertEqual(keeper.base_copy(), base)

    def test_the_sequence_of_entries(self):
        keeper = self.keeper(U, T, VIEW, Check("c", "t", "(less n 9)"))
        session = keeper.open_session(LOW)
        session.do(("drop", "check", "c"))
        session.do(("drop", "table", "u"))
        session.do(("define", Check("c", "t", "(less n 8)")))
        session.do(("define", U))
        keeper.flush(LOW)
        keeper.compact(label=LOW, count=8)
        told = list(keeper.records(LOW))[0]
        self.assertEqual([change[1][1] for change in told[3]], ["t", "v", "c", "u"])
        self.assertEqual((told[1], told[2], told[4]), (8, 1, {}))

    def test_ids_are_sorted_as_strings(self):
        keeper = self.keeper(T)
        keeper.open_session(AB).do(row("x"))
        for label in (B, A, AB):
            session = keeper.open_session(label)
            session.do(("define", T))
            session.do(("insert", "t", ["y", 1]))
        for label in (LOW, A, B):
            keeper.flush(label)
        keeper.open_session(AB).do(("insert", "t:b", ["w", 1]))
        keeper.open_session(AB).do(("insert", "t:a", ["v", 1]))
        self.assertEqual(keeper.flush(AB), 5)
        keeper.compact(AB, 5)
        told = list(keeper.records(AB))[0]
        self.assertEqual([change[1] for change in told[3][1:]], ["t:-", "t:a", "t:a+b", "t:b"])
        self.assertEqual(told[4], {"-": 1, "a": 2, "b": 2})
        self.assertEqual(list(told[4]), ["-", "a", "b"])

    def test_a_dropped_table(self):
        keeper = self.keeper(T)
        session = keeper.open_session(A)
        session.do(row("x"))
        keeper.open_session(LOW).do(("drop", "table", "t"))
        keeper.flush(LOW)
        keeper.flush(A)
        keeper.compact(A, 1)
        keeper.compact(LOW, 2)
        self.assertEqual(list(keeper.records(A)), [("base", 1, 0, [("put", "t:-", ("x", None))], {"-": 1})])
        self.assertEqual(list(keeper.records(LOW)), [("base", 2, 1, [], {})])

    def test_one_behind_another(self):
        keeper = self.keeper(T)
        for at in range(5):
            keeper.open_session(A).do(row(f"k{at}", at))
        keeper.arrive(A, "t", [["q", 1]])
        keeper.flush(LOW)
        keeper.flush(A)
        plain = self.journals(keeper)["a"]
        for count in (1, 2, 4, 4, 6):
            keeper.compact(A, count)
            records = list(keeper.records(A))
            self.assertEqual(records[0][:3], ("base", count, min(count, 5) - 1))
            self.assertEqual(records[0][3], [("put", "t:-", (f"k{at}", at)) for at in range(min(count, 5))]
                             + [("put", "t:-", ("q", 1))] * (count == 6))
            self.assertEqual(records[1:], plain[count:])
            self.assertEqual([keeper.length(A), keeper.safe(A), keeper.durable(A), keeper.commits(A)], [6] * 4)

    def test_no_session(self):
        keeper = self.keeper(T)
        keeper.arrive(A, "t", [["q", 1]])
        keeper.flush(LOW)
        keeper.flush(A)
        keeper.compact(A, 1)
        self.assertEqual(list(keeper.records(A)), [("base", 1, None, [("put", "t:-", ("q", 1))], {"-": 1})])
        keeper.crash()
        self.assertEqual(keeper.open_session(A).session_number, 0)

    def test_counts(self):
        keeper = self.keeper(T)
        session = keeper.open_session(A)
        for at in range(4):
            session.do(row(f"k{at}"))
            if at == 2:
                keeper.flush(A)
        keeper.open_session(LOW).do(row("x"))
        for value in every_kind() + [0, 1, 2, 3, 4]:
            told = error_of(keeper.compact, A, value)
            self.assertEqual(told[0], "InvalidCount")
            self.assertIs(told[1], value)
        keeper.flush(LOW)
        before = self.told(keeper)
        for count in (0, 4, 5, -1, True):
            self.fails(keeper, keeper.compact, (A, count), ("InvalidCount", count))
        for count in (1, 0):
            self.fails(keeper, keeper.compact, (B, count), ("InvalidCount", count))
        keeper.compact(A, 2)
        told = self.told(keeper)
        for _ in range(2):
            keeper.compact(A, 2)
            self.assertEqual(self.told(keeper), told)
        self.assertEqual(told[:2], before[:2])
        for count in (1, 0, 4):
            self.fails(keeper, keeper.compact, (A, count), ("InvalidCount", count))
        keeper.compact(A, 3)
        self.fails(keeper, keeper.compact, (A, 2), ("InvalidCount", 2))

    def test_crashes_behind_it(self):
        keeper = self.keeper(T)
        session = keeper.open_session(A)
        for at in range(4):
            session.do(row(f"k{at}"))
            if at == 2:
                keeper.flush(A)
        keeper.flush(LOW)
        keeper.compact(A, 2)
        self.assertEqual(keeper.crash({"a": 0}), {"-": 1, "a": 3, "b": 0, "a+b": 0})
        self.assertEqual([record[:2] for record in keeper.records(A)], [("base", 2), ("record", 3)])
        self.assertEqual(list(keeper.base_copy().layer(A, "t:-")), ["k0", "k1", "k2"])
        keeper.compact(A, 3)
        self.assertEqual(keeper.crash({"a": 1})["a"], 3)
        self.assertEqual([record[:3] for record in keeper.records(A)], [("base", 3, 0)])
        fresh = keeper.open_session(A)
        self.assertEqual((fresh.session_number, keeper.commits(A)), (1, 3))
        fresh.do(row("p"))
        self.assertEqual([record[:3] for record in keeper.records(A)], [("base", 3, 0), ("record", 4, 1)])
        above = keeper.open_session(AB)
        above.do(row("r"))
        self.assertEqual(list(keeper.records(AB))[0][4], {"-": 1, "a": 4, "b": 0})

    def test_what_is_told_is_new(self):
        keeper = self.keeper(T)
        keeper.flush(LOW)
        keeper.compact(LOW, 1)
        before = self.journals(keeper)
        for record in keeper.records(LOW):
            record[3].clear()
            record[4]["x"] = 1
        self.assertEqual(self.journals(keeper), before)


class Shadow:
    """A second account of a keeper: whole records, and recovery by the words of the document."""

    def __init__(self, labels):
        self.labels = labels
        self.records = {str(label): [] for label in labels}
        self.safe = {str(label): 0 for label in labels}

    def note(self, keeper):
        """Takes over the records that are new."""
        for label in self.labels:
            mine = self.records[str(label)]
            mine.extend(record for record in keeper.records(label) if record[0] == "record" and record[1] > len(mine))

    def kept(self, asked):
        found = {}
        for label in self.labels:
            text = str(label)
            many = len(self.records[text])
            most = max(self.safe[text], min(asked.get(text, many), many))
            found[text] = max(n for n in range(most + 1) if all(
                all(record[4][lower] <= found[lower] for lower in record[4]) for record in self.records[text][:n]))
        return found

    def cut(self, found):
        for text in found:
            self.records[text] = self.records[text][:found[text]]
            self.safe[text] = found[text]

    def durable(self, text):
        alone = {lower: min(self.safe[lower], len(self.records[lower])) for lower in self.records}
        while True:
            less = {lower: max(n for n in range(alone[lower] + 1) if all(
                all(record[4][other] <= alone[other] for other in record[4]) for record in self.records[lower][:n])) for lower in alone}
            if less == alone:
                return alone[text]
            alone = less

    def base(self, marks):
        base = Base(*marks)
        for label in self.labels:
            for record in self.records[str(label)]:
                base.apply(label, record[3])
        return base


class RandomTest(KeeperCase):
    def test_random_keepers(self):
        crashes = lost = compacted = 0
        for seed in range(60):
            chance = random.Random(seed)
            keeper = self.keeper(T, marks=("a", "b", "c"))
            labels = list(ABC.below())
            shadow = Shadow(labels)
            sessions = [keeper.open_session(label) for label in labels]
            for at in range(60):
                label = chance.choice(labels)
                way = chance.random()
                if way < 0.5:
                    session = chance.choice(sessions)
                    error_of(session.do, chance.choice([row(f"k{chance.randint(0, 9)}", at), row(None, at), ("remove", "t", f"k{chance.randint(0, 9)}")]))
                elif way < 0.6:
                    error_of(keeper.arrive, label, "t", [[None, at]])
                elif way < 0.8:
                    shadow.safe[str(label)] = keeper.flush(label)
                elif way < 0.92:
                    many = keeper.durable(label)
                    if many > 0:
                        compacted += error_of(keeper.compact, label, chance.randint(1, many)) is None
                else:
                    asked = {str(lower): chance.randint(0, 12) for lower in chance.sample(labels, chance.randint(0, 8))}
                    durable = {str(lower): keeper.durable(lower) for lower in labels}
                    shadow.note(keeper)
                    expected = shadow.kept(asked)
                    lost += expected != {text: len(shadow.records[text]) for text in expected}
                    self.assertEqual(keeper.crash(asked), expected)
                    # a durable commit is always kept
                    self.assertTrue(all(durable[text] <= expected[text] for text in durable))
                    shadow.cut(expected)
                    crashes += 1
                    sessions = [keeper.open_session(lower) for lower in labels]
                    numbers = [max([record[2] for record in shadow.records[str(lower)] if record[2] is not None], default=-1) + 1 for lower in labels]
                    self.assertEqual([session.session_number for session in sessions], numbers)
                shadow.note(keeper)
                self.compare(keeper, shadow, labels)
        self.assertGreater(min(crashes, lost, compacted), 25)

    def compare(self, keeper, shadow, labels):
        for label in labels:
            text = str(label)
            told = (keeper.length(label), keeper.safe(label), keeper.durable(label), keeper.commits(label))
            many = len(shadow.records[text])
            self.assertEqual(told, (many, shadow.safe[text], shadow.durable(text), many))
            records = list(keeper.records(label))
            if records and records[0][0] == "base":
                number = records[0][1]
                base, whole = Base("a", "b", "c"), Base("a", "b", "c")
                base.apply(label, records[0][3])
                for record in shadow.records[text][:number]:
                    whole.apply(label, record[3])
                self.assertEqual(base, whole)
                self.assertEqual(records[0][4], shadow.records[text][number - 1][4])
                records = records[1:]
                self.assertEqual(records, shadow.records[text][number:])
            else:
                self.assertEqual(records, shadow.records[text])
        self.assertEqual(keeper.base_copy(), shadow.base(keeper.marks))


if __name__ == "__main__":
    unittest.main()
