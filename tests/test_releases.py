"""[31]: rights, offers, confirmations, and the sessions of users."""

import unittest

from aboveless.desk import Desk
from aboveless.entries import Right
from aboveless.labels import Label
from aboveless.releases import may_release
from tests.helpers import every_kind, exact
from tests.samples import A, AB, B, LOW, base_of

ASKED = "(ask (select (items (k x.k) (n x.n)) (from (x t))))"
ABC = Label("a", "b", "c")


class DeskCase(unittest.TestCase):
    def desk(self, *lines, marks=("a", "b"), replicas=()):
        """A desk with users: low, ann and bob at a, ben at b, top, tim and tom at a+b; low makes a table t first."""
        made = Desk(*marks, replicas=replicas)
        for name, label in (("low", LOW), ("ann", A), ("bob", A), ("ben", B), ("top", AB), ("tim", AB), ("tom", AB)):
            made.add_user(name, label)
        self.says(made, "low", "(table t (k text filled) (n int maybe))", "-")
        for user, text in lines:
            answer = made.line(user, text)
            self.assertFalse(answer[:1].isupper(), (text, answer))
        return made

    def says(self, desk, user, text, expected):
        self.assertEqual(desk.line(user, text), expected, text)

    def state(self, desk):
        keeper = desk.keeper()
        labels = list(Label(*keeper.marks).below())
        return (keeper.base_copy(), [list(keeper.records(label)) for label in labels],
                [(keeper.length(label), keeper.safe(label), keeper.durable(label)) for label in labels], desk.users())

    def refuses(self, desk, user, text, expected):
        """Checks that a line is answered by an error, twice, behind which nothing has changed."""
        before = self.state(desk)
        for _ in range(2):
            self.says(desk, user, text, expected)
        after = self.state(desk)
        self.assertEqual(after[0], before[0])
        self.assertEqual(exact(after[1:3]), exact(before[1:3]))


class RightsTest(unittest.TestCase):
    def may(self, base, label, user, mark, expected):
        for _ in range(2):
            self.assertIs(may_release(base.world(label), user, mark), expected)
        self.assertIs(may_release(world=base.world(label), user=user, mark=mark), expected)

    def test_the_label_has_the_mark(self):
        base = base_of((LOW, Right("r", "ann", "a")), (B, Right("r", "ann", "a")))
        for label in (LOW, A, B, AB):
            self.may(base, label, "ann", "a", False)
        base.define(A, Right("r", "ann", "a"))
        for label, expected in ((LOW, False), (A, True), (B, False), (AB, True)):
            self.may(base, label, "ann", "a", expected)
        base = base_of((AB, Right("r", "ann", "a")))
        self.may(base, AB, "ann", "a", True)
        self.may(base, A, "ann", "a", False)

    def test_users_and_marks(self):
        base = base_of((A, Right("r", "ann", "a")), (B, Right("s", "bob", "b")), (A, Right("q", "ann", "b")))
        for user, mark, expected in (("ann", "a", True), ("bob", "b", True), ("ann", "b", False), ("bob", "a", False),
                                     ("tim", "a", False), ("ann", "c", False)):
            self.may(base, AB, user, mark, expected)

    def test_names_of_rights_do_not_matter(self):
        base = base_of((A, Right("ann", "x", "a")), (A, Right("a", "y", "a")))
        self.may(base, A, "ann", "a", False)
        self.may(base, A, "y", "a", True)

    def test_dropped_rights(self):
        base = base_of((A, Right("r", "ann", "a")))
        base.drop(A, "right", "r")
        self.may(base, A, "ann", "a", False)

    def test_values_of_any_kind(self):
        world = base_of((A, Right("r", "a", "a"))).world(A)
        for value in every_kind():
            self.assertIs(may_release(world, value, "a"), value is not True and exact(value) == ("str", "a"))
            self.assertIs(may_release(world, "a", value), exact(value) == ("str", "a"))


class OfferTest(DeskCase):
    def test_numbers(self):
        desk = self.desk()
        self.says(desk, "ann", "(offer t - (row 'x' 1))", "0")
        self.says(desk, "bob", "(offer t - (row 'x' 1) (row 'y' empty))", "1")
        self.says(desk, "top", "(offer t a (row 'x' 1))", "0")
        self.says(desk, "ann", "(offer t - (row))", "2")
        self.says(desk, "ben", "(offer t - (row 'x' 1))", "0")
        self.says(desk, "tom", "(offer t b (row 'x' 1))", "1")

    def test_labels_that_are_not_strictly_below(self):
        desk = self.desk()
        for user, label in (("ann", "a"), ("ann", "b"), ("ann", "a+b"), ("ann", "c"), ("low", "-"), ("low", "a"),
                            ("top", "a+b"), ("top", "a+b+c"), ("top", "c")):
            self.refuses(desk, user, f"(offer t {label} (row 'x' 1))", f"InvalidLabel {label}")
        self.says(desk, "ann", "(offer t - (row 'x' 1))", "0")

    def test_nobody_judges(self):
        desk = self.desk()
        before = self.state(desk)
        for number, text in enumerate(("(offer q - (row 'x' 1))", "(offer t:a - (row 1 2 3 4 5 6 7))", "(offer t - (row))")):
            self.says(desk, "ann", text, str(number))
        self.assertEqual(self.state(desk), before)


class ConfirmTest(DeskCase):
    def allowed(self, *lines, **more):
        """A desk where bob may release from a, and tim from a+b."""
        rights = (("ann", "(right r bob a)"), ("ben", "(right r tim b)"), ("top", "(right s tim a)"))
        return self.desk(*rights, *lines, **more)

    def test_a_release(self):
        desk = self.allowed(("ann", "(offer t - (row 'x' 1) (row empty 2) (row 'z' empty))"))
        self.says(desk, "bob", "(confirm 0)", "'x' '-.in.2.1' 'z'")
        self.says(desk, "low", ASKED, "('-.in.2.1' 2) ('x' 1) ('z' empty)")
        self.assertEqual(list(desk.keeper().records(LOW))[1:], [
            ("record", 2, None, [("put", "t:-", ("x", 1)), ("put", "t:-", ("-.in.2.1", 2)), ("put", "t:-", ("z", None))], {})])

    def test_integer_keys(self):
        desk = self.allowed(("low", "(table u (k int filled))"), ("ann", "(offer u - (row 5) (row -7))"))
        self.says(desk, "bob", "(confirm 0)", "5 -7")

    def test_once(self):
        desk = self.allowed(("ann", "(offer t - (row 'x' 1))"), ("ann", "(offer t - (row 'y' 1))"), ("bob", "(confirm 0)"))
        for user in ("bob", "ann"):
            self.refuses(desk, user, "(confirm 0)", "UnknownOffer 0")
        self.says(desk, "bob", "(confirm 1)", "'y'")
        self.says(desk, "ann", "(offer t - (row 'z' 1))", "2")

    def test_unknown_offers(self):
        desk = self.allowed(("ann", "(offer t - (row 'x' 1))"))
        for user, number in (("bob", "1"), ("bob", "9" * 30), ("top", "0"), ("ben", "0"), ("low", "0")):
            self.refuses(desk, user, f"(confirm {number})", f"UnknownOffer {number}")

    def test_the_same_user(self):
        desk = self.allowed(("bob", "(offer t - (row 'x' 1))"))
        self.refuses(desk, "bob", "(confirm 0)", "OwnOffer 0")
        self.refuses(desk, "ann", "(confirm 0)", "NotAllowed a")

    def test_rights(self):
        desk = self.desk(("top", "(offer t - (row 'x' 1))"), ("top", "(offer t b (row 'y' 1))"))
        self.refuses(desk, "tim", "(confirm 0)", "NotAllowed a")
        # made where the mark is not
        self.says(desk, "low", "(right r tim a)", "-")
        self.says(desk, "ben", "(right r tim a)", "-")
        self.refuses(desk, "tim", "(confirm 0)", "NotAllowed a")
        self.says(desk, "ann", "(right r tim a)", "-")
        self.refuses(desk, "tim", "(confirm 0)", "NotAllowed b")
        # the lower label has b itself
        self.says(desk, "tim", "(confirm 1)", "'y'")
        self.says(desk, "ben", "(right s tim b)", "-")
        self.refuses(desk, "tom", "(confirm 0)", "NotAllowed a")
        self.says(desk, "tim", "(confirm 0)", "'x'")

    def test_rights_of_the_own_world(self):
        desk = self.desk(("ann", "(offer t - (row 'x' 1))"), ("top", "(right r bob a)"))
        self.refuses(desk, "bob", "(confirm 0)", "NotAllowed a")
        self.says(desk, "bob", "(right r bob a)", "-")
        self.says(desk, "bob", "(confirm 0)", "'x'")

    def test_dropped_rights(self):
        desk = self.allowed(("ann", "(offer t - (row 'x' 1))"), ("ann", "(drop right r)"))
        self.refuses(desk, "bob", "(confirm 0)", "NotAllowed a")

    def test_inserts_that_are_refused(self):
        lines = (("low", "(check c t (less n 9))"), ("low", "(table u (k int filled) (p text maybe))"), ("low", "(reference r u p t restrict)"),
                 ("low", "(insert t 'x' 1)"))
        cases = (
            ("(offer q - (row 'y' 1))", "UnknownSource q"), ("(offer t:a - (row 'y' 1))", "UnknownSource t:a"),
            ("(offer t - (row 'y'))", "WrongValues ('y')"), ("(offer t - (row))", "WrongValues ()"),
            ("(offer t - (row empty true))", "WrongValues (empty true)"), ("(offer t - (row 'x' 2))", "Taken 'x'"),
            ("(offer t - (row empty 9))", "Broken c '-.in.6.0'"), ("(offer u - (row 1 'z'))", "Missing r 'z'"),
            ("(offer t - (row 'y' 1) (row 'z' 1) (row 'y' 2))", "Taken 'y'"), ("(offer t - (row 'y' 1) (row empty 9))", "Broken c '-.in.6.1'"),
        )
        for text, error in cases:
            desk = self.allowed(*lines, ("ann", text))
            self.refuses(desk, "bob", "(confirm 0)", error)
            self.says(desk, "low", ASKED, "('x' 1)")
        # the offer stays, and may succeed later
        desk = self.allowed(("low", "(insert t 'x' 1)"), ("ann", "(offer t - (row 'y' 1) (row 'x' 2))"))
        self.refuses(desk, "bob", "(confirm 0)", "Taken 'x'")
        self.says(desk, "low", "(remove t 'x')", "(t:- 'x')")
        self.says(desk, "bob", "(confirm 0)", "'y' 'x'")

    def test_the_table_is_that_of_the_lower_label(self):
        desk = self.allowed(("ann", "(table t (k text filled))"), ("ann", "(offer t - (row 'x' 1))"))
        self.says(desk, "bob", "(confirm 0)", "'x'")
        self.says(desk, "low", ASKED, "('x' 1)")

    def test_open_transactions_below(self):
        desk = self.allowed(("low", "(begin)"), ("low", ASKED), ("ann", "(offer t - (row 'x' 1))"), ("bob", "(confirm 0)"))
        self.says(desk, "low", "(commit)", "ReplayDiffers 0 (done -) (done ('x' 1))")

    def test_within_a_transaction(self):
        desk = self.allowed(("ann", "(offer t - (row 'x' 1))"), ("bob", "(begin)"))
        for text in ("(confirm 0)", "(confirm 7)", "(offer t - (row 'x' 1))", "(offer t a (row 'x' 1))"):
            self.refuses(desk, "bob", text, "InTransaction 1")
        self.says(desk, "bob", "(abandon)", "-")
        self.says(desk, "bob", "(confirm 0)", "'x'")

    def test_the_sequence_of_errors(self):
        desk = self.desk(("bob", "(offer q - (row 'x' 1))"))
        self.refuses(desk, "bob", "(confirm 0)", "OwnOffer 0")
        self.refuses(desk, "ann", "(confirm 0)", "NotAllowed a")
        self.says(desk, "ann", "(right r ann a)", "-")
        self.refuses(desk, "ann", "(confirm 0)", "UnknownSource q")

    def test_behind_a_crash(self):
        desk = self.allowed(("ann", "(offer t - (row 'x' 1))"), ("ann", "(offer t - (row 'y' 1))"), ("top", "(offer t - (row 'z' 1))"))
        desk.crash()
        for user in ("bob", "tim"):
            self.refuses(desk, user, "(confirm 0)", "UnknownOffer 0")
        self.says(desk, "ann", "(offer t - (row empty 1))", "0")
        self.says(desk, "bob", "(confirm 0)", "'-.in.2.0'")
        desk.crash({"-": 1})
        self.says(desk, "ann", "(offer t - (row empty 1))", "0")
        # the right at a had been seen by nobody, so it is kept; the commit of - was lost
        self.says(desk, "bob", "(confirm 0)", "'-.in.2.0'")

    def test_three_marks(self):
        desk = Desk("a", "b", "c")
        for name in ("one", "two"):
            desk.add_user(name, ABC)
        for text, answer in (("(table t (k text filled))", "-"), ("(offer t b (row 'x'))", "0")):
            self.says(desk, "one", text, answer)
        self.refuses(desk, "two", "(confirm 0)", "NotAllowed a")
        self.says(desk, "one", "(right r two a)", "-")
        self.refuses(desk, "two", "(confirm 0)", "NotAllowed c")
        self.says(desk, "one", "(right s two c)", "-")
        # t was made above
        self.refuses(desk, "two", "(confirm 0)", "UnknownSource t")


class SessionsTest(DeskCase):
    def test_sessions_are_opened_with_the_users(self):
        desk = self.desk()
        self.says(desk, "bob", "(insert t empty 1)", "'a.1.0'")
        self.says(desk, "ann", "(insert t empty 1)", "'a.0.0'")
        self.says(desk, "tom", "(insert t empty 1)", "'a+b.2.0'")
        self.says(desk, "bob", "(insert t empty 1)", "'a.1.1'")

    def test_behind_a_crash_with_the_next_line(self):
        desk = self.desk(("ann", "(insert t 'x' 1)"))
        desk.crash()
        # whatever it is, also one that is no command
        self.says(desk, "bob", "nothing", "InvalidLine")
        self.says(desk, "ann", "(insert t empty 1)", "'a.2.0'")
        self.says(desk, "bob", "(insert t empty 1)", "'a.1.0'")
        self.says(desk, "tom", 5, "InvalidLine")
        self.says(desk, "top", "(insert t empty 1)", "'a+b.1.0'")

    def test_reads_open_no_session(self):
        desk = self.desk(("ann", "(insert t 'x' 1)"), replicas=[A])
        desk.crash()
        desk.read_at(0, "bob", "x")
        self.says(desk, "ann", "(insert t empty 1)", "'a.1.0'")

    def test_transactions_end_with_a_crash(self):
        desk = self.desk(("ann", "(begin)"), ("ann", "(insert t 'x' 1)"))
        desk.crash()
        self.says(desk, "ann", "(commit)", "NoTransaction 0")
        self.says(desk, "ann", ASKED, "-")


if __name__ == "__main__":
    unittest.main()
