"""[30]: deliveries, cuts, and what is told at a replica."""

import random
import unittest

from aboveless.answers import answer
from aboveless.base import Base
from aboveless.entries import Check, Index
from aboveless.journals import Keeper
from aboveless.labels import Label
from aboveless.queries import Query
from aboveless.replicas import Replica, deliver
from tests.helpers import end_of, error_of, every_kind, exact, unchanged
from tests.samples import A, AB, B, LOW
from tests.test_journals import KeeperCase, T, row

ASKED = "(select (items (k x.k)) (from (x t)))"
ABC = Label("a", "b", "c")


class ReplicaCase(KeeperCase):
    def filled(self, *labels):
        """A keeper with a record of - and then one for each of these labels; nothing is safe."""
        keeper = self.keeper(T)
        sessions = {}
        for at, label in enumerate(labels):
            session = sessions.setdefault(str(label), keeper.open_session(label))
            session.do(row(f"k{at}", at))
        return keeper

    def safe(self, *labels):
        keeper = self.filled(*labels)
        for label in (LOW, A, B, AB):
            keeper.flush(label)
        return keeper

    def cut(self, replica, *expected):
        for _ in range(2):
            told = replica.present_cut()
            self.assertEqual(list(told), [str(label) for label in replica.label.below()])
            self.assertEqual(list(told.values()), list(expected))
            told.clear()

    def keys(self, replica, label, *expected):
        """Checks the keys that are told for a label."""
        for _ in range(2):
            rows, cut = replica.ask(label, ASKED)
            self.assertEqual(rows, [(key,) for key in expected])
            self.assertEqual(list(cut.items()), [(str(lower), replica.present_cut()[str(lower)]) for lower in label.below()])
            self.assertEqual([key for key, _, _ in replica.world(label).rows("t")], list(expected))
            rows.clear()
            cut.clear()

    def told(self, replica):
        """All that a replica tells."""
        labels = list(Label(*replica.marks).below())
        return ([replica.length(label) for label in labels], replica.present_cut(), replica.world(replica.label).suspended(),
                [list(replica.world(replica.label).rows(source)) for source in replica.world(replica.label).tables()])


class MakingTest(ReplicaCase):
    def test_labels_and_marks(self):
        replica = Replica(A, "b", "a", "b")
        self.assertEqual((replica.label, replica.marks), (A, ("a", "b")))
        self.assertEqual(list(replica.present_cut().items()), [("-", 0), ("a", 0)])
        self.assertEqual([replica.length(label) for label in (LOW, A, B, AB)], [0, 0, 0, 0])
        self.assertEqual(Replica(label=LOW).marks, ())

    def test_errors(self):
        self.assertEqual(error_of(Replica, 5, "a", "B"), ("InvalidName", "B"))
        self.assertEqual(error_of(Replica, 5, "a", "b", "c", "d", "e"), ("TooMany", "marks", 4))
        for value in [value for value in every_kind() if not isinstance(value, Label)] + [B, AB]:
            told = error_of(Replica, value, "a")
            self.assertEqual(told[0], "InvalidLabel")
            self.assertIs(told[1], value)

    def test_labels_of_methods(self):
        replica, keeper = Replica(A, "a", "b"), Keeper("a", "b")
        for value in [value for value in every_kind() if not isinstance(value, Label)] + [Label("c"), Label("a", "c")]:
            calls = (
                lambda: replica.length(value), lambda: replica.receive(value, ("record", 5, 0, [], {})), lambda: replica.world(value),
                lambda: replica.ask(value, 5, at_least={"-": 9}), lambda: deliver(replica, keeper, value, -1),
            )
            for call in calls:
                told = error_of(call)
                self.assertEqual(told[0], "InvalidLabel")
                self.assertIs(told[1], value)
        for label in (B, AB):
            calls = (
                lambda: replica.receive(label, ("record", 5, 0, [], {})), lambda: replica.receive(label),
                lambda: replica.ask(label, 5, at_least={"-": 9}), lambda: deliver(replica, keeper, label, -1),
            )
            for call in calls:
                self.assertEqual(error_of(call), ("InvalidLabel", label))


class DeliverTest(ReplicaCase):
    def test_none_some_and_all(self):
        keeper, replica = self.safe(LOW, LOW, LOW), Replica(A, "a", "b")
        self.assertEqual(deliver(replica, keeper, LOW, 0), 0)
        self.cut(replica, 0, 0)
        self.assertEqual(deliver(replica=replica, keeper=keeper, label=LOW, count=2), 2)
        self.cut(replica, 2, 0)
        self.keys(replica, LOW, "k0")
        self.assertEqual(deliver(replica, keeper, LOW, 10 ** 30), 2)
        self.cut(replica, 4, 0)
        self.assertEqual(deliver(replica, keeper, LOW, 5), 0)
        self.keys(replica, A, "k0", "k1", "k2")

    def test_only_durable_ones(self):
        keeper, replica = self.filled(LOW, A), Replica(AB, "a", "b")
        self.assertEqual(deliver(replica, keeper, LOW, 9), 0)
        keeper.flush(A)
        self.assertEqual(deliver(replica, keeper, A, 9), 0)
        keeper.flush(LOW)
        keeper.open_session(LOW).do(row("x"))
        self.assertEqual(deliver(replica, keeper, A, 9), 1)
        self.assertEqual(deliver(replica, keeper, LOW, 9), 2)
        self.keys(replica, AB, "k0", "k1")
        keeper.flush(LOW)
        self.assertEqual(deliver(replica, keeper, LOW, 9), 1)
        self.keys(replica, AB, "k0", "k1", "x")

    def test_counts(self):
        keeper, replica = self.safe(LOW), Replica(A, "a", "b")
        for value in every_kind():
            if exact(value)[0] != "int" or value < 0:
                told = error_of(deliver, replica, keeper, LOW, value)
                self.assertEqual(told[0], "InvalidCount")
                self.assertIs(told[1], value)
        self.assertEqual(replica.length(LOW), 0)

    def test_marks_that_the_keeper_lacks(self):
        keeper, replica = Keeper("a"), Replica(AB, "a", "b")
        keeper.open_session(A).do(("define", T))
        keeper.flush(A)
        for label in (B, AB):
            self.assertEqual(error_of(deliver, replica, keeper, label, -1), ("InvalidLabel", label))
        self.assertEqual(deliver(replica, keeper, A, 1), 1)
        self.cut(replica, 0, 1, 0, 0)
        # and marks that the replica lacks
        self.assertEqual(error_of(deliver, Replica(LOW), keeper, A, 1), ("InvalidLabel", A))
        self.assertEqual(deliver(Replica(LOW), keeper, LOW, 1), 0)

    def test_several_replicas_of_a_keeper(self):
        keeper = self.safe(A, B)
        first, second = Replica(A, "a", "b"), Replica(AB, "a", "b")
        for label in (A, LOW):
            deliver(first, keeper, label, 9)
        for label in (B, A, LOW):
            deliver(second, keeper, label, 9)
        self.keys(first, A, "k0")
        self.keys(second, A, "k0")
        self.keys(second, AB, "k0", "k1")

    def test_behind_a_crash(self):
        keeper, replica = self.filled(LOW, LOW), Replica(A, "a", "b")
        keeper.flush(LOW)
        keeper.open_session(LOW).do(row("x"))
        deliver(replica, keeper, LOW, 9)
        keeper.crash({"-": 0})
        keeper.open_session(LOW).do(row("y"))
        keeper.flush(LOW)
        self.assertEqual(deliver(replica, keeper, LOW, 9), 1)
        self.keys(replica, A, "k0", "k1", "y")


class CutTest(ReplicaCase):
    def test_records_that_wait(self):
        keeper, replica = self.safe(A, LOW, A, AB), Replica(AB, "a", "b")
        self.assertEqual(deliver(replica, keeper, AB, 9), 1)
        self.cut(replica, 0, 0, 0, 0)
        self.assertEqual(replica.length(AB), 1)
        self.assertEqual(deliver(replica, keeper, A, 9), 2)
        self.cut(replica, 0, 0, 0, 0)
        deliver(replica, keeper, LOW, 1)
        self.cut(replica, 1, 1, 0, 0)
        self.keys(replica, AB, "k0")
        deliver(replica, keeper, LOW, 1)
        self.cut(replica, 2, 2, 0, 1)
        self.keys(replica, AB, "k0", "k1", "k2", "k3")
        self.keys(replica, A, "k0", "k1", "k2")
        self.keys(replica, LOW, "k1")
        self.assertEqual(error_of(replica.ask, B, "x"), ("InvalidText", "query"))

    def test_journals_in_any_sequence(self):
        told = set()
        for seed in range(20):
            chance = random.Random(seed)
            keeper, replica = self.safe(A, B, LOW, AB, A, B, AB), Replica(AB, "a", "b")
            labels = [LOW, LOW, A, A, B, B, AB, AB]
            chance.shuffle(labels)
            for label in labels:
                deliver(replica, keeper, label, 1)
                told.add(tuple(replica.present_cut().values()))
            self.cut(replica, 2, 2, 2, 2)
        self.assertGreater(len(told), 10)

    def test_base_records(self):
        keeper, replica = self.safe(A, A, A, A), Replica(A, "a", "b")
        deliver(replica, keeper, LOW, 9)
        deliver(replica, keeper, A, 1)
        plain = self.journals(keeper)["a"]
        keeper.compact(A, 3)
        self.assertEqual(deliver(replica, keeper, A, 1), 1)
        self.assertEqual(replica.length(A), 3)
        self.cut(replica, 1, 3)
        self.keys(replica, A, "k0", "k1", "k2")
        self.assertEqual(deliver(replica, keeper, A, 1), 1)
        self.cut(replica, 1, 4)
        keeper.compact(A, 4)
        self.assertEqual(deliver(replica, keeper, A, 9), 0)
        other = Replica(A, "a", "b")
        self.assertEqual(deliver(other, keeper, A, 9), 1)
        self.cut(other, 0, 0)
        deliver(other, keeper, LOW, 9)
        self.cut(other, 1, 4)
        self.assertEqual(other.world(A), replica.world(A))
        third = Replica(A, "a", "b")
        third.receive(A, *plain)
        third.receive(LOW, *keeper.records(LOW))
        self.assertEqual(third.world(A), replica.world(A))

    def test_what_was_received_before_a_base_record_stays(self):
        keeper, replica = self.filled(A, A), Replica(A, "a", "b")
        keeper.flush(LOW)
        keeper.flush(A)
        deliver(replica, keeper, LOW, 9)
        deliver(replica, keeper, A, 1)
        for label in (LOW, A, A):
            keeper.open_session(label).do(row(f"q{keeper.length(label)}{label}"))
        keeper.flush(LOW)
        keeper.flush(A)
        keeper.compact(A, 3)
        self.assertEqual(deliver(replica, keeper, A, 9), 2)
        # the base record has seen two of -, of which the replica has one
        self.cut(replica, 1, 1)
        self.assertEqual(replica.length(A), 4)
        self.keys(replica, A, "k0")
        deliver(replica, keeper, LOW, 9)
        self.cut(replica, 2, 4)
        self.keys(replica, A, "k0", "k1", "q1-", "q2a", "q3a")

    def test_a_base_record_stands_for_all_before_it(self):
        keeper, replica = self.safe(LOW), Replica(A, "a", "b")
        low = keeper.open_session(LOW)
        low.do(("define", Check("c", "t", "(less n 9)")))
        keeper.flush(LOW)
        self.assertEqual(deliver(replica, keeper, LOW, 9), 3)
        for command in (("drop", "check", "c"), row("x", 10), ("remove", "t", "k0"), ("define", Check("d", "t", "(less n 99)"))):
            low.do(command)
        keeper.flush(LOW)
        keeper.compact(LOW, 6)
        self.assertEqual(deliver(replica, keeper, LOW, 1), 1)
        self.keys(replica, A, "x")
        self.assertEqual(replica.world(LOW).entries(), [("table", "t", LOW)])
        self.assertEqual(deliver(replica, keeper, LOW, 1), 1)
        self.assertEqual(replica.world(LOW), keeper.world(LOW))

    def test_a_base_record_of_a_lower_journal(self):
        keeper, replica = self.safe(LOW, A, LOW, A, LOW), Replica(A, "a", "b")
        keeper.compact(LOW, 4)
        deliver(replica, keeper, A, 9)
        self.cut(replica, 0, 0)
        deliver(replica, keeper, LOW, 1)
        # the base record is beyond all that those of a have seen
        self.cut(replica, 4, 2)
        self.keys(replica, A, "k0", "k1", "k2", "k3", "k4")


class ReceiveTest(ReplicaCase):
    def test_sequences(self):
        keeper = self.safe(LOW, LOW, LOW)
        records, replica = list(keeper.records(LOW)), Replica(A, "a", "b")
        self.assertEqual(unchanged(self, replica.receive, LOW), 0)
        self.assertEqual(unchanged(self, replica.receive, LOW, *records[:2]), 2)
        self.assertEqual(replica.receive(LOW, records[2]), 3)
        self.assertEqual(replica.receive(LOW), 3)
        self.assertEqual(replica.length(label=LOW), 3)

    def test_out_of_sequence(self):
        keeper = self.safe(*[LOW] * 5)
        records = list(keeper.records(LOW))
        replica = Replica(A, "a", "b")
        replica.receive(LOW, records[0])
        before = self.told(replica)
        cases = (
            ([0], 1), ([2], 3), ([1, 1], 2), ([1, 3], 4), ([1, 2, 0], 1), ([1, 2, 4, 0], 5), ([5, 0], 6),
        )
        for at, number in cases:
            for _ in range(2):
                self.assertEqual(error_of(replica.receive, LOW, *[records[place] for place in at]), ("OutOfSequence", number))
                self.assertEqual(self.told(replica), before)

    def test_base_records_out_of_sequence(self):
        keeper = self.safe(*[LOW] * 5)
        records = list(keeper.records(LOW))
        bases = {}
        for count in (2, 4):
            keeper.compact(LOW, count)
            bases[count] = list(keeper.records(LOW))[0]
        replica = Replica(A, "a", "b")
        replica.receive(LOW, *records[:2])
        before = self.told(replica)
        for given, number in (([bases[2]], 2), ([bases[4], bases[2]], 2), ([bases[4], bases[4]], 4), ([bases[4], records[3]], 4),
                              ([bases[4], records[5]], 6), ([records[2], records[3], bases[4]], 4)):
            self.assertEqual(error_of(replica.receive, LOW, *given), ("OutOfSequence", number))
            self.assertEqual(self.told(replica), before)
        self.assertEqual(replica.receive(LOW, records[2], bases[4], records[4]), 5)
        self.cut(replica, 5, 0)
        self.keys(replica, LOW, "k0", "k1", "k2", "k3")

    def test_records_are_copied(self):
        keeper, replica = self.safe(A), Replica(A, "a", "b")
        records = {label: list(keeper.records(Label.of_text(label))) for label in ("-", "a")}
        replica.receive(LOW, *records["-"])
        replica.receive(A, *records["a"])
        for told in records.values():
            for record in told:
                record[3].clear()
                record[4]["-"] = 99
        self.cut(replica, 1, 1)
        self.keys(replica, A, "k0")


class AskTest(ReplicaCase):
    def setUp(self):
        keeper = self.safe(A, B, LOW, AB)
        self.replica = Replica(AB, "a", "b")
        for label, count in ((LOW, 1), (A, 1), (B, 1), (AB, 1)):
            deliver(self.replica, keeper, label, count)

    def test_the_cut_below_the_own_label(self):
        for label, expected in ((LOW, {"-": 1}), (A, {"-": 1, "a": 1}), (B, {"-": 1, "b": 1}), (AB, {"-": 1, "a": 1, "b": 1, "a+b": 0})):
            self.assertEqual(self.replica.ask(label=label, text=ASKED)[1], expected)

    def test_at_least(self):
        cases = (
            (A, {"-": 1, "a": 1}, None), (A, {"-": 0, "a": 0}, None), (A, {"-": 2, "a": 1}, {"-": 1, "a": 1}),
            (A, {"-": 0, "a": 2}, {"-": 1, "a": 1}), (AB, {"-": 0, "a": 0, "b": 0, "a+b": 1}, {"-": 1, "a": 1, "b": 1, "a+b": 0}),
            (LOW, {"-": 10 ** 30}, {"-": 1}), (A, None, None),
        )
        for label, least, behind in cases:
            for _ in range(2):
                told = error_of(lambda: self.replica.ask(label, ASKED, at_least=least))
                self.assertEqual(told, None if behind is None else ("Behind", behind))
        self.assertRaises(TypeError, self.replica.ask, A, ASKED, {"-": 1})

    def test_errors(self):
        for text, error in (
            (5, ("InvalidText", "string")), ("x", ("InvalidText", "query")), (ASKED.replace("x t", "x u"), ("UnknownSource", "u")),
            (ASKED.replace("x.k", "x.q"), ("UnknownColumn", "x.q")), (ASKED.replace("x.k", "(not x.k)"), ("WrongSort", ("items", 0))),
        ):
            self.assertEqual(error_of(self.replica.ask, A, text), error)
            self.assertEqual(error_of(lambda: self.replica.ask(A, text, at_least={"-": 9, "a": 0})), ("Behind", {"-": 1, "a": 1}))
        self.assertEqual(error_of(Replica(A, "a", "b").ask, A, ASKED), ("UnknownSource", "t"))

    def test_worlds_do_not_change(self):
        keeper, replica = self.safe(LOW, LOW), Replica(LOW, "a", "b")
        deliver(replica, keeper, LOW, 2)
        world = replica.world(label=LOW)
        deliver(replica, keeper, LOW, 2)
        self.assertEqual((len(world), len(replica.world(LOW))), (1, 2))


def model_cut(label, received):
    """The cut by the words of the document: for each label all numbers are tried, the greatest first."""
    cut = {}
    for lower in label.below():
        text = str(lower)
        plain = {record[1]: record for record in received[text] if record[0] == "record"}
        bases = {record[1]: record for record in received[text] if record[0] == "base"}

        def is_good(records):
            return all(record is not None and all(record[4][other] <= cut[other] for other in record[4]) for record in records)

        def can_be(n):
            if is_good([plain.get(number) for number in range(1, n + 1)]):
                return True
            return any(m <= n and is_good([bases[m]] + [plain.get(number) for number in range(m + 1, n + 1)]) for m in bases)

        most = max([record[1] for record in received[text]], default=0)
        cut[text] = next(n for n in range(most, -1, -1) if can_be(n))
    return cut


class RandomTest(ReplicaCase):
    def test_cuts(self):
        cuts = waiting = 0
        for seed in range(40):
            chance = random.Random(seed)
            keeper = self.keeper(T, marks=("a", "b", "c"))
            labels = list(ABC.below())
            sessions = [keeper.open_session(label) for label in labels]
            history = {str(label): [] for label in labels}
            replicas = [Replica(label, "a", "b", "c") for label in (ABC, AB, A)]
            received = [{str(label): [] for label in labels} for _ in replicas]
            for at in range(70):
                label = chance.choice(labels)
                way = chance.random()
                if way < 0.4:
                    key = f"k{chance.randint(0, 4)}"
                    end_of(chance.choice(sessions).do, chance.choice([
                        row(key, at), row(key, at), row(None, at), ("remove", "t", key), ("define", Index("i", "t", "n")), ("drop", "index", "i")]))
                elif way < 0.6:
                    keeper.flush(label)
                elif way < 0.7:
                    if keeper.durable(label) > 0:
                        error_of(keeper.compact, label, chance.randint(1, keeper.durable(label)))
                else:
                    place = chance.randint(0, 2)
                    replica = replicas[place]
                    count = chance.randint(0, 4)
                    records, length, durable = list(keeper.records(label)), replica.length(label), keeper.durable(label)
                    if not label.is_below(replica.label):
                        self.assertEqual(error_of(deliver, replica, keeper, label, count), ("InvalidLabel", label))
                        continue
                    expected = [record for record in records if length < record[1] <= durable][:count]
                    self.assertEqual(deliver(replica, keeper, label, count), len(expected))
                    received[place][str(label)].extend(expected)
                for lower in labels:
                    mine = history[str(lower)]
                    mine.extend(record for record in keeper.records(lower) if record[0] == "record" and record[1] > len(mine))
                for replica, told in zip(replicas, received):
                    cut = model_cut(replica.label, told)
                    self.assertEqual(replica.present_cut(), cut)
                    cuts += 1
                    waiting += any(cut[text] < replica.length(Label.of_text(text)) for text in cut)
            for replica in replicas:
                self.is_the_state(replica, history)
        self.assertGreater(waiting, cuts // 60)

    def is_the_state(self, replica, history):
        """The world of each label below is that of the records of the cut, as they were before a compaction."""
        cut = replica.present_cut()
        base = Base("a", "b", "c")
        for text in cut:
            for record in history[text][:cut[text]]:
                base.apply(Label.of_text(text), record[3])
        for label in replica.label.below():
            self.assertEqual(replica.world(label), base.world(label))
            rows, told = replica.ask(label, ASKED) if cut["-"] > 0 else ([], {})
            if told:
                self.assertEqual(rows, answer(base.world(label), Query(ASKED)))
                self.assertEqual(told, {str(lower): cut[str(lower)] for lower in label.below()})


if __name__ == "__main__":
    unittest.main()
