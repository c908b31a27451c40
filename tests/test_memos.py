"""[28]: memos of views, and the rows in which two worlds differ."""

import random
import unittest

from aboveless.base import Base
from aboveless.entries import Check, View
from aboveless.memos import differing
from aboveless.sessions import Engine
from tests.helpers import error_of, every_kind, exact, unchanged
from tests.samples import A, AB, B, LOW, base_of, put, table
from tests.test_commands import SessionCase

T = table("t", "k:text", "n:int?")
U = table("u", "k:int", "b:truth?")
VIEW = View("v", "(select (items (k x.k) (n x.n)) (from (x t)))")
OTHER = View("w", "(select (items (c (count))) (from (x v) (y u)) (group))")


def row(key, number=None, name="t"):
    return ("insert", name, [key, number])


class DifferingTest(unittest.TestCase):
    def differ(self, first, second, many):
        for _ in range(2):
            self.assertEqual(unchanged(self, differing, first, second), many)
            if second is not None:
                self.assertEqual(differing(second, first), many)
        self.assertEqual(differing(world=first, other=second), many)

    def world(self, *rows, label=A, entries=(T, U)):
        return put(base_of(*entries), *rows).world(label)

    def test_no_world(self):
        self.differ(self.world(), None, 0)
        self.differ(self.world((LOW, "t:-", ("x", 1)), (A, "u:-", (1, None)), (B, "t:-", ("y", 1))), None, 2)

    def test_the_same_rows(self):
        rows = ((LOW, "t:-", ("x", 1)), (A, "u:-", (1, True)))
        self.differ(self.world(*rows), self.world(*rows), 0)
        self.differ(self.world(*rows), self.world(*rows, (B, "t:-", ("y", 1)), (B, "u:-", (1, None))), 0)

    def test_rows_on_one_side(self):
        first = self.world((LOW, "t:-", ("x", 1)), (LOW, "t:-", ("y", 1)))
        self.differ(first, self.world((LOW, "t:-", ("x", 1))), 1)
        self.differ(first, self.world(), 2)
        self.differ(first, self.world((LOW, "t:-", ("z", 1)), (LOW, "u:-", (1, None))), 4)

    def test_other_rows(self):
        first = self.world((LOW, "t:-", ("x", 1)), (LOW, "u:-", (1, True)))
        self.differ(first, self.world((LOW, "t:-", ("x", 2)), (LOW, "u:-", (1, True))), 1)
        self.differ(first, self.world((LOW, "t:-", ("x", 2)), (LOW, "u:-", (1, None))), 2)

    def test_one_and_true_are_other_values(self):
        first = self.world((LOW, "u:-", (1, True)))
        other = self.world((LOW, "u:-", (1, 1)), entries=(T, table("u", "k:int", "b:int?")))
        self.differ(first, other, 1)

    def test_the_same_row_from_another_label(self):
        first = self.world((LOW, "t:-", ("x", 1)))
        self.differ(first, self.world((LOW, "t:-", ("x", 1)), (A, "t:-", ("x", 1))), 1)

    def test_rows_that_do_not_stand(self):
        first = self.world((LOW, "t:-", ("x", 1)), (LOW, "t:-", ("y", 5)))
        check = Check("c", "t", "(less n 5)")
        self.differ(first, self.world((LOW, "t:-", ("x", 1)), (LOW, "t:-", ("y", 5)), entries=(T, (A, check))), 1)
        self.differ(first, self.world((LOW, "t:-", ("x", 1)), (LOW, "t:-", ("y", 5)), entries=(U,)), 2)

    def test_the_same_keys_of_other_tables(self):
        first = self.world((LOW, "t:-", ("x", 1)), entries=(T, (A, T)))
        self.differ(first, self.world((A, "t:a", ("x", 1)), entries=(T, (A, T))), 2)

    def test_random_worlds(self):
        for seed in range(60):
            chance = random.Random(seed)
            worlds, told = [], []
            for _ in range(2):
                base = base_of(T, U, Check("c", "t", "(less n 3)"))
                for _ in range(8):
                    source = chance.choice(["t:-", "u:-"])
                    number = chance.randint(0, 3)
                    filled = (f"k{number}", chance.choice([1, 2, 3])) if source == "t:-" else (number, chance.choice([True, None]))
                    base.put_row(chance.choice([LOW, A, B]), source, filled)
                worlds.append(base.world(A))
                told.append({(source, key): (kept, str(label)) for source in ("t:-", "u:-") for key, kept, label in worlds[-1].rows(source)})
            self.differ(worlds[0], worlds[1], sum(told[0].get(place) != told[1].get(place) for place in {**told[0], **told[1]}))
            self.differ(worlds[0], None, len(told[0]))


class MemoCase(SessionCase):
    def setUp(self):
        self.made = self.engine(T, U, VIEW, OTHER)
        self.low, self.session, self.other = [self.made.open_session(label) for label in (LOW, A, A)]


class RefreshTest(MemoCase):
    def test_the_first_refresh(self):
        self.assertEqual(self.session.refresh("v"), 0)
        self.assertEqual(self.session.memo("v"), [])
        self.session.forget("v")
        self.low.do(row("x", 1))
        self.low.do(row(7, None, "u"))
        # all rows of the world count, also of tables that the view does not have
        self.assertEqual(self.session.refresh(view="v"), 2)
        self.assertEqual(self.session.memo(view="v"), [("x", 1)])

    def test_a_memo_stays_as_it_was(self):
        self.low.do(row("x", 1))
        self.session.refresh("v")
        self.low.do(row("y", 2))
        self.low.do(("change", "t", "x", {"n": 5}))
        self.session.do(("remove", "t", "x"))
        for _ in range(2):
            self.assertEqual(self.session.memo("v"), [("x", 1)])
        self.assertEqual(self.session.refresh("v"), 2)
        self.assertEqual(self.session.memo("v"), [("y", 2)])
        self.assertEqual(self.session.refresh("v"), 0)

    def test_what_a_refresh_returns(self):
        for key in "xyz":
            self.low.do(row(key, 1))
        self.session.refresh("v")
        steps = (
            (self.low, ("change", "t", "x", {"n": 2}), 1), (self.low, ("remove", "t", "y"), 1), (self.low, row("q"), 1),
            (self.session, ("change", "t", "z", {"n": 1}), 1), (self.session, row(5, True, "u"), 1),
            (self.session, ("define", Check("c", "t", "(less n 2)")), 1), (self.session, ("drop", "check", "c"), 1),
            (self.session, ("define", View("a", VIEW.query.text)), 0), (self.session, ("remove", "u", 5), 1),
        )
        for session, command, many in steps:
            session.do(command)
            self.assertEqual(self.session.refresh("v"), many, command)

    def test_memos_belong_to_labels(self):
        self.low.do(row("x", 1))
        above = self.made.open_session(AB)
        self.assertEqual([session.refresh("v") for session in (self.session, above, self.low)], [1, 1, 1])
        self.low.do(row("y", 1))
        # another session of the label has the same memo
        self.assertEqual(self.other.memo("v"), [("x", 1)])
        self.assertEqual([session.refresh("v") for session in (self.other, self.session, above, self.low)], [1, 0, 1, 1])
        self.low.forget("v")
        self.assertEqual(error_of(self.low.memo, "v"), ("NoMemo", "v"))
        self.assertEqual(self.session.memo("v"), [("x", 1), ("y", 1)])
        self.other.forget("v")
        self.assertEqual(error_of(self.session.memo, "v"), ("NoMemo", "v"))
        self.assertEqual(len(above.memo("v")), 2)

    def test_what_is_not_below_makes_no_difference(self):
        self.session.refresh("v")
        for label in (B, AB):
            stranger = self.made.open_session(label)
            stranger.do(row(f"x{label}", 1))
            stranger.refresh("v")
            stranger.forget("v")
        self.assertEqual(self.session.memo("v"), [])
        self.assertEqual(self.session.refresh("v"), 0)

    def test_memos_of_different_views(self):
        self.low.do(row("x", 1))
        self.session.refresh("v")
        self.assertEqual(error_of(self.session.memo, "w"), ("NoMemo", "w"))
        self.low.do(row(1, None, "u"))
        self.assertEqual(self.session.refresh("w"), 2)
        self.assertEqual((self.session.memo("w"), self.session.memo("v")), ([(1,)], [("x", 1)]))
        self.assertEqual(self.session.refresh("v"), 1)

    def test_names_and_ids(self):
        self.low.do(row("x", 1))
        self.session.refresh("v:-")
        self.assertEqual(self.session.memo("v"), [("x", 1)])
        self.session.do(("define", View("v", "(select (items (n x.n)) (from (x t)))")))
        self.assertEqual(error_of(self.session.memo, "v"), ("NoMemo", "v"))
        self.assertEqual(error_of(self.session.memo, "v:a"), ("NoMemo", "v:a"))
        self.assertEqual(self.session.memo("v:-"), [("x", 1)])
        self.assertEqual(self.session.refresh("v"), 1)
        self.assertEqual((self.session.memo("v"), self.session.memo("v:a"), self.session.memo("v:-")), ([(1,)], [(1,)], [("x", 1)]))

    def test_a_view_that_is_made_again(self):
        self.session.do(("define", View("q", "(select (items (k x.k)) (from (x t)))")))
        self.low.do(row("x", 1))
        self.session.refresh("q")
        self.session.do(("drop", "view", "q"))
        for call in (self.session.memo, self.session.refresh, self.session.forget):
            self.assertEqual(error_of(call, "q"), ("UnknownSource", "q"))
        self.session.do(("define", View("q", "(select (items (n x.n)) (from (x t)))")))
        self.assertEqual(self.session.memo("q"), [("x",)])
        self.assertEqual(self.session.refresh("q"), 0)
        self.assertEqual(self.session.memo("q"), [(1,)])

    def test_what_is_returned_is_new(self):
        self.low.do(row("x", 1))
        self.session.refresh("v")
        self.session.memo("v").clear()
        self.assertEqual(self.session.memo("v"), [("x", 1)])

    def test_nothing_else_changes(self):
        self.low.do(row("x", 1))
        before = self.state(self.made)
        self.session.refresh("v")
        self.session.memo("v")
        self.session.forget("v")
        self.assertEqual(self.state(self.made), before)


class MemoErrorsTest(MemoCase):
    def test_unknown_views(self):
        calls = (self.session.refresh, self.session.memo, self.session.forget)
        for value in every_kind() + ["t", "t:-", "v:a", "q"]:
            for call in calls:
                told = error_of(call, value)
                self.assertEqual(told[0], "UnknownSource")
                self.assertIs(told[1], value)

    def test_no_memo(self):
        for text in ("v", "v:-"):
            for call in (self.session.memo, self.session.forget):
                for _ in range(2):
                    self.assertEqual(error_of(call, text), ("NoMemo", text))
        self.session.refresh("v")
        self.assertIsNone(self.session.forget(view="v"))
        self.assertEqual(error_of(self.session.forget, "v"), ("NoMemo", "v"))

    def test_forgetting_makes_it_a_world_without_rows(self):
        self.low.do(row("x", 1))
        self.assertEqual([self.session.refresh("v"), self.session.refresh("v")], [1, 0])
        self.session.forget("v")
        self.assertEqual(self.session.refresh("v"), 1)

    def test_within_a_transaction(self):
        self.low.do(row("x", 1))
        self.session.refresh("v")
        self.session.begin()
        self.session.do(row("y", 1))
        self.session.do(("define", View("q", VIEW.query.text)))
        for value in ("v", "q", "t", None):
            for call in (self.session.refresh, self.session.forget):
                self.assertEqual(error_of(call, value), ("InTransaction", 0))
        # the view is looked up in the own world as it is, not in that of the transaction
        self.assertEqual(self.session.memo("v"), [("x", 1)])
        self.assertEqual(error_of(self.session.memo, "q"), ("UnknownSource", "q"))
        self.assertEqual(error_of(self.session.memo, "w"), ("NoMemo", "w"))
        # others of the label are in no transaction
        self.low.do(row("z", 1))
        self.assertEqual(self.other.refresh("v"), 1)
        self.assertEqual(self.session.memo("v"), [("x", 1), ("z", 1)])
        self.other.do(("define", View("q", VIEW.query.text)))
        self.other.refresh("q")
        self.assertEqual(len(self.session.memo("q")), 2)
        self.session.abandon()
        self.session.forget("v")

    def test_an_empty_engine(self):
        session = Engine().open_session(LOW)
        self.assertEqual(error_of(session.memo, "v"), ("UnknownSource", "v"))


class ModelTest(MemoCase):
    def test_random_refreshes(self):
        """Against an account that keeps copies of the whole database."""
        for seed in range(30):
            chance = random.Random(seed)
            self.setUp()
            sessions = {str(session.label): session for session in (self.low, self.session, self.made.open_session(AB))}
            kept = {}
            for _ in range(30):
                text = chance.choice(sorted(sessions))
                session, view = sessions[text], chance.choice(["v", "w"])
                if chance.random() < 0.5:
                    command = chance.choice([row(chance.choice("xyz"), chance.randint(0, 2)), ("remove", "t", chance.choice("xyz")),
                                             row(chance.randint(0, 2), None, "u")])
                    error_of(session.do, command)
                elif chance.random() < 0.2:
                    self.assertEqual(error_of(session.forget, view), None if (text, view) in kept else ("NoMemo", view))
                    kept.pop((text, view), None)
                else:
                    base = self.made.base_copy()
                    was = kept.get((text, view), Base("a", "b"))
                    rows = [{(source, key): (told, str(label)) for source in world.tables() for key, told, label in world.rows(source)}
                            for world in (base.world(session.label), was.world(session.label))]
                    many = sum(rows[0].get(place) != rows[1].get(place) for place in {**rows[0], **rows[1]})
                    self.assertEqual(session.refresh(view), many)
                    kept[(text, view)] = base
                for (lower, name), base in kept.items():
                    engine = Engine("a", "b")
                    engine.restart(base, {}, {})
                    session = engine.open_session(sessions[lower].label)
                    self.assertEqual(exact(sessions[lower].memo(name)), exact(session.do(("ask", f"(select (items {self.items(name)}) (from (x {name})))"))))

    def items(self, name):
        return "(k x.k) (n x.n)" if name == "v" else "(c x.c)"


if __name__ == "__main__":
    unittest.main()
