"""[33]: histories that are played, their transcripts, and their purges."""

import unittest

from aboveless.desk import Desk
from aboveless.histories import played, purge, transcript
from aboveless.labels import Label
from tests.helpers import error_of, every_kind, exact, unchanged
from tests.samples import A, AB, B, LOW

Q = "(select (items (k x.k) (n x.n)) (from (x t)))"
ASK = f"(ask {Q})"
USERS = {"low": LOW, "ann": A, "bob": A, "ben": B, "top": AB, "tim": AB}
TABLE = ("line", "low", "(table t (k text filled) (n int maybe))")
RIGHTS = [("line", "ann", "(right r bob a)"), ("line", "ann", "(right s tim a)"), ("line", "ben", "(right s tim b)")]


def desk_of(users=None, replicas=(A, LOW), marks=("a", "b")):
    desk = Desk(*marks, replicas=replicas)
    for name, label in (USERS if users is None else users).items():
        desk.add_user(name, label)
    return desk


class HistoryCase(unittest.TestCase):
    def purged(self, history, label, expected):
        """Checks the purge, that it tells the same, and that it is its own purge."""
        told = played(desk_of(), history)
        left = unchanged(self, purge, told, history, USERS, label)
        self.assertEqual(exact(left), exact(expected))
        self.assertEqual(exact(purge(told=told, history=tuple(history), users=USERS, label=label)), exact(expected))
        self.same_is_told(told, left, label)
        again = played(desk_of(), left)
        self.assertEqual(exact(purge(again, left, USERS, label)), exact(left))

    def same_is_told(self, told, left, label):
        expected = transcript(told, USERS, label)
        self.assertEqual(transcript(played(desk_of(), left), USERS, label), expected)
        below = {name: lower for name, lower in USERS.items() if lower.is_below(label)}
        self.assertEqual(transcript(played(desk_of(below), left), below, label), expected)


class PlayedTest(HistoryCase):
    def test_answers(self):
        history = [
            TABLE, ("line", "ann", "(insert t empty 1)"), ("crash", {"a": 5}), ("line", "low", "x"), ("line", "low", "(flush)"),
            ("deliver", 0, "-", 1), ("read", 0, "low", Q), ("read", 1, "ann", Q), ("arrive", "-", "t", [["x", 1]]), ("line", "low", ASK),
        ]
        expected = [(0, "low", "-"), (1, "ann", "'a.0.0'"), (3, "low", "InvalidLine"), (4, "low", "1"), (6, "low", "-"),
                    (7, "ann", "InvalidLabel a"), (9, "low", "('x' 1)")]
        self.assertEqual(unchanged(self, lambda given: played(desk_of(), given), history), expected)
        self.assertEqual(played(desk=desk_of(), history=tuple(history)), expected)
        self.assertEqual(played(desk_of(), []), [])

    def test_a_desk_goes_on(self):
        desk = desk_of()
        played(desk, [TABLE, ("line", "low", "(insert t 'x' 1)")])
        self.assertEqual(played(desk, [("line", "low", ASK)]), [(0, "low", "('x' 1)")])


class TranscriptTest(HistoryCase):
    def test_users_below(self):
        told = [(0, "low", "a"), (1, "ann", "b"), (3, "ben", "c"), (4, "top", "d"), (7, "low", "e"), (8, "bob", "f")]
        for label, expected in ((LOW, "ae"), (A, "abef"), (B, "ace"), (AB, "abcdef"), (Label("c"), "ae")):
            for _ in range(2):
                self.assertEqual(unchanged(self, transcript, told, USERS, label), list(expected))
        self.assertEqual(transcript(told=tuple(told), users=USERS, label=A), list("abef"))
        self.assertEqual(transcript([], USERS, A), [])

    def test_labels(self):
        for value in every_kind():
            if not isinstance(value, Label):
                for call in (lambda: transcript([], {}, value), lambda: purge([], [], {}, value)):
                    told = error_of(call)
                    self.assertEqual(told[0], "InvalidLabel")
                    self.assertIs(told[1], value)


class PurgeTest(HistoryCase):
    def test_lines_and_reads(self):
        lines = [TABLE] + [("line", name, f"(insert t '{name}' 1)") for name in USERS] + [("line", name, ASK) for name in USERS]
        reads = [("read", number, name, Q) for name in USERS for number in (0, 1)]
        history = lines + [("line", "low", "(flush)"), ("deliver", 0, "-", 9)] + reads
        for label in (LOW, A, B, AB):
            expected = [event for event in history
                        if event[0] == "deliver" or USERS[event[1 if event[0] == "line" else 2]].is_below(label)]
            self.purged(history, label, expected)

    def test_lines_that_are_no_commands(self):
        history = [("line", "ann", "x"), ("line", "low", "x"), ("line", "ann", ""), ("line", "top", "(confirm 0)"), ("line", "top", "(confirm x)")]
        self.purged(history, LOW, [("line", "low", "x")])
        self.purged(history, A, history[:3])

    def test_crashes(self):
        history = [TABLE, ("line", "ann", "(insert t 'x' 1)"), ("crash", {"-": 1, "a": 0, "b": 5, "a+b": 1}), ("line", "ann", ASK),
                   ("crash", {"a": 1}), ("crash", {}), ("line", "low", ASK)]
        self.purged(history, LOW, [TABLE, ("crash", {"-": 1}), ("crash", {}), ("crash", {}), ("line", "low", ASK)])
        self.purged(history, A, history[:2] + [("crash", {"-": 1, "a": 0})] + history[3:])
        self.purged(history, B, [TABLE, ("crash", {"-": 1, "b": 5}), ("crash", {}), ("crash", {}), ("line", "low", ASK)])

    def test_deliveries(self):
        lines = [TABLE, ("line", "low", "(flush)"), ("line", "ann", "(insert t 'x' 1)"), ("line", "ann", "(flush)")]
        history = lines + [("deliver", 0, "-", 5), ("deliver", 0, "a", 5), ("deliver", 1, "-", 5), ("read", 0, "low", Q), ("read", 0, "ann", Q)]
        self.purged(history, LOW, lines[:2] + [("deliver", 0, "-", 5), ("deliver", 1, "-", 5), ("read", 0, "low", Q)])
        self.purged(history, A, history)

    def test_arrivals(self):
        history = [TABLE, ("arrive", "-", "t", [["x", 1]]), ("arrive", "a", "t", [["x", 1], ["y", None]]), ("arrive", "a", "t", [["y", 1]]),
                   ("line", "ann", ASK), ("line", "low", ASK)]
        self.purged(history, LOW, [history[0], history[1], history[5]])
        self.purged(history, A, history)
        self.purged(history, B, [history[0], history[1], history[5]])


class ReleaseTest(HistoryCase):
    def test_confirmed_releases(self):
        offer = ("line", "ann", "(offer t - (row 'x' 1) (row empty empty) (row 'it (s)' -5))")
        history = [TABLE, offer] + RIGHTS + [("line", "bob", "(confirm 0)"), ("line", "low", ASK)]
        arrival = ("arrive", "-", "t", [["x", 1], [None, None], ["it (s)", -5]])
        self.purged(history, LOW, [TABLE, arrival, history[-1]])
        self.purged(history, B, [TABLE, history[4], arrival, history[-1]])
        # those below see the line itself
        self.purged(history, A, [event for event in history if event != history[4]])
        self.purged(history, AB, history)

    def test_releases_to_several_labels(self):
        offers = [("line", "top", "(offer t a (row 'x' 1))"), ("line", "top", "(offer t - (row 'y' true))"), ("line", "top", "(offer t b (row 'z' 1))"),
                  ("line", "top", "(offer t - (row empty 1))")]
        confirms = [("line", "tim", f"(confirm {number})") for number in (3, 1, 2, 0)]
        asks = [("line", name, ASK) for name in USERS]
        history = [TABLE] + RIGHTS + offers + confirms + asks
        low, to_a, to_b = ("arrive", "-", "t", [[None, 1]]), ("arrive", "a", "t", [["x", 1]]), ("arrive", "b", "t", [["z", 1]])
        self.purged(history, LOW, [TABLE, low, asks[0]])
        self.purged(history, A, [TABLE] + RIGHTS[:2] + [low, to_a] + asks[:3])
        self.purged(history, B, [TABLE, RIGHTS[2], low, to_b, asks[0], asks[3]])
        self.purged(history, AB, history)

    def test_refused_confirmations_are_left_out(self):
        history = [
            TABLE, ("line", "ann", "(offer t - (row 'x' 1))"), ("line", "bob", "(confirm 0)"), ("line", "ann", "(confirm 0)"), ("line", "bob", "(confirm 1)"),
        ] + RIGHTS + [
            ("line", "bob", "(begin)"), ("line", "bob", "(confirm 0)"), ("line", "bob", "(commit)"), ("line", "low", "(insert t 'x' 5)"),
            ("line", "bob", "(confirm 0)"), ("line", "low", "(remove t 'x')"), ("line", "bob", "(confirm 0)"), ("line", "bob", "(confirm 0)"), ("line", "low", ASK),
        ]
        self.purged(history, LOW, [TABLE, history[-6], history[-4], ("arrive", "-", "t", [["x", 1]]), history[-1]])

    def test_integer_keys(self):
        table = ("line", "low", "(table u (k int filled))")
        history = [table] + RIGHTS + [("line", "ann", "(offer u - (row -5) (row 6))"), ("line", "bob", "(confirm 0)"), ("line", "low", "(insert u -5)")]
        self.purged(history, LOW, [table, ("arrive", "-", "u", [[-5], [6]]), history[-1]])

    def test_numbers_behind_a_crash(self):
        history = [
            TABLE, ("line", "ann", "(offer t - (row 'x' 1))"), ("line", "ann", "(offer t - (row 'y' 1))")] + RIGHTS + [
            ("line", "bob", "(confirm 1)"), ("crash", {}), ("line", "bob", "(confirm 0)"), ("line", "bob", "(offer t - (row 'z' 1))"),
            ("line", "ann", "(offer q - (row 'p' 1))"), ("line", "bob", "(confirm 1)"), ("line", "bob", "(confirm 0)"), ("line", "ann", "(right w ann a)"),
            ("line", "ann", "(confirm 0)"), ("line", "low", ASK),
        ]
        self.purged(history, LOW, [TABLE, ("arrive", "-", "t", [["y", 1]]), ("crash", {}), ("arrive", "-", "t", [["z", 1]]), history[-1]])

    def test_offers_that_were_refused_have_no_number(self):
        history = [TABLE] + RIGHTS + [
            ("line", "ann", "(offer t b (row 'x' 1))"), ("line", "ann", "(begin)"), ("line", "ann", "(offer t - (row 'y' 1))"), ("line", "ann", "(abandon)"),
            ("line", "ann", "(offer t - (row 'z' 1))"), ("line", "bob", "(confirm 0)"), ("line", "low", ASK),
        ]
        self.purged(history, LOW, [TABLE, ("arrive", "-", "t", [["z", 1]]), history[-1]])

    def test_labels_have_their_own_numbers(self):
        history = [TABLE] + RIGHTS + [
            ("line", "ann", "(offer t - (row 'x' 1))"), ("line", "top", "(offer t - (row 'y' 1))"), ("line", "tim", "(confirm 0)"), ("line", "bob", "(confirm 0)"),
            ("line", "low", ASK),
        ]
        self.purged(history, LOW, [TABLE, ("arrive", "-", "t", [["y", 1]]), ("arrive", "-", "t", [["x", 1]]), history[-1]])
        self.purged(history, A, [TABLE] + RIGHTS[:2] + [history[4], ("arrive", "-", "t", [["y", 1]]), history[7], history[-1]])


class CopiesTest(HistoryCase):
    def test_what_is_returned_is_new(self):
        history = [TABLE, ("crash", {"-": 1}), ("arrive", "-", "t", [["x", 1]])]
        told = played(desk_of(), history)
        left = purge(told, history, USERS, LOW)
        left[1][1].clear()
        left[2][3][0].clear()
        left[2][3].clear()
        left.clear()
        self.assertEqual(history, [TABLE, ("crash", {"-": 1}), ("arrive", "-", "t", [["x", 1]])])
        self.assertEqual(purge(told, history, USERS, LOW), history)
        told.clear()
        self.assertEqual(transcript(played(desk_of(), history), USERS, LOW), ["-"])

    def test_rows_that_are_tuples(self):
        history = [TABLE, ("arrive", "-", "t", (("x", 1), ["y", 2]))]
        told = played(desk_of(), history)
        self.assertEqual(purge(told, history, USERS, LOW), history)
        self.assertEqual(played(desk_of(), history + [("line", "low", ASK)])[-1], (2, "low", "('x' 1) ('y' 2)"))


if __name__ == "__main__":
    unittest.main()
