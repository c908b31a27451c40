"""[4], and the whole document: random histories against their purges, and against a second account of them."""

import random
import unittest

from aboveless.base import Base
from aboveless.commands import perform
from aboveless.desk import Desk
from aboveless.entries import Check, Index, Reference
from aboveless.expressions import Expression
from aboveless.histories import played, purge, transcript
from aboveless.journals import Keeper
from aboveless.labels import Label
from aboveless.values import value_text
from aboveless.writes import Writer
from tests.helpers import end_of, error_of, exact
from tests.samples import A, AB, B, LOW, table

LABELS = (LOW, A, B, AB)
USERS = {"low": LOW, "les": LOW, "ann": A, "bob": A, "ben": B, "top": AB, "tim": AB}
REPLICAS = (AB, A, LOW)
SOURCES = ("t", "t", "t", "u", "u", "t:-", "t:a", "u:-", "w", "v")
TEXTS = ("t", "u", "v", "t:-", "t:a", "w")
KEYS = {"t": ["'x'", "'y'", "'z'", "'a.0.0'", "empty"], "u": ["1", "2", "3"]}


def random_query(chance):
    first, second = chance.choice(TEXTS), chance.choice(TEXTS)
    return chance.choice([
        f"(select (items (k x.k) (n x.n)) (from (x {first})))",
        f"(select (items (k x.k)) (from (x {first})) (where (same x.n {chance.randint(0, 3)})) (order (down k)) (limit 3))",
        f"(select (items (c (count)) (m (greatest x.n))) (from (x {first}) (y {second})) (where (same x.n y.n)) (group))",
        f"(select (items (n x.n) (c (count))) (from (x {first})) (where (filled x.n)) (group x.n))",
        f"(select (items (k x.k) (q y.k)) (from (x {first}) (y {second})) (where (and (same x.n y.n) (less x.n 3))))",
    ])


def random_values(chance, name):
    keys = KEYS["u"] if name.startswith("u") else KEYS["t"]
    return f"{chance.choice(keys)} {chance.choice(['0', '1', '2', '3', 'empty', 'true'] if chance.random() < 0.9 else [chr(39) * 2])}"


def random_write(chance):
    name = chance.choice(SOURCES)
    key = random_values(chance, name).split(" ")[0].replace("empty", "'x'")
    number = chance.choice(["0", "1", "2", "3", "empty"])
    rule = chance.choice(["restrict", "cascade", "empty", "other"])
    return chance.choice([
        f"(insert {name} {random_values(chance, name)})", f"(insert {name} {random_values(chance, name)})", f"(insert t empty {number})",
        f"(change {name} {key} (n {number}))", f"(remove {name} {key})", f"(revert {name} {key})", f"(change {name} {key})",
        f"(revert t:- {chance.choice(KEYS['t'][:3])})", f"(revert u {chance.choice(KEYS['u'])})",
        f"(check c {name} (less n {number.replace('empty', '2')}))", f"(index i {name} n)", f"(reference r u n {name} {rule})",
        f"(reference q t n u {rule})", f"(view v {random_query(chance)})", "(table t (k text filled) (n int maybe))", "(table u (k int filled) (n int maybe))",
        "(table w (k int filled) (n truth maybe) (m int maybe))", "(right r tim a)", "(right s tim b)", "(right r bob a)",
        f"(drop {chance.choice(['check c', 'index i', 'reference r', 'reference q', 'view v', 'table u', 'table w', 'right r'])})",
    ])


def random_line(chance):
    query = random_query(chance)
    if chance.random() < 0.45:
        return random_write(chance)
    rows = " ".join(f"(row {random_values(chance, 't')})" for _ in range(chance.randint(1, 2)))
    return chance.choice([
        f"(ask {query})", f"(ask {query})", f"(measure {query})", f"(within {chance.randint(0, 6)} {query})", f"(explain {query})",
        f"(why {chance.randint(0, 2)} {query})", "(suspended)", "(begin)", "(commit)", "(commit)", "(abandon)",
        "(refresh v)", "(refresh w)", "(forget v)", "(flush)", "(flush)", f"(compact {chance.randint(0, 4)})", f"(offer t {chance.choice(['-', '-', 'a', 'b'])} {rows})",
        f"(offer t - {rows})", f"(confirm {chance.randint(0, 3)})", f"(confirm {chance.randint(0, 1)})", "(confirm 0)", "nothing", "(ask  x)",
    ])


def random_event(chance):
    way = chance.random()
    text = chance.choice(["-", "-", "a", "b", "a+b"])
    if way < 0.8:
        return ("line", chance.choice(sorted(USERS)), random_line(chance))
    if way < 0.83:
        return ("crash", {label: chance.randint(0, 9) for label in chance.sample(["-", "a", "b", "a+b"], chance.randint(0, 3))})
    if way < 0.93:
        number = chance.randint(0, 2)
        lower = Label.of_text(text) & REPLICAS[number]
        return ("deliver", number, str(lower), chance.randint(0, 4))
    if way < 0.97:
        return ("read", chance.randint(0, 2), chance.choice(sorted(USERS)), random_query(chance))
    return ("arrive", text, "t", [[chance.choice([None, "x", "y", "p"]), chance.choice([0, 1, None])] for _ in range(chance.randint(0, 2))])


def random_release(chance):
    """An offer and confirmations of it by another user, both outside of transactions."""
    offering, confirming, lower = chance.choice([("ann", "bob", "-"), ("top", "tim", "-"), ("top", "tim", "a"), ("top", "tim", "b")])
    rows = " ".join(f"(row {random_values(chance, 't')})" for _ in range(chance.randint(1, 2)))
    lines = [(offering, "(abandon)"), (offering, f"(offer t {lower} {rows})"), (confirming, "(abandon)")]
    lines += [(confirming, f"(confirm {number})") for number in range(4)]
    return [("line", user, text) for user, text in lines]


def random_transaction(chance):
    """Lines of a user between begin and commit, with lines of others in between."""
    user = chance.choice(sorted(USERS))
    found = [("line", user, "(begin)")]
    near = [name for name in sorted(USERS) if USERS[name].is_below(USERS[user])]
    for _ in range(chance.randint(1, 5)):
        own = chance.random() < 0.6
        text = random_line(chance)
        if chance.random() < 0.5:
            # lines that touch each other
            key = chance.choice(["'p'", "'x'", "empty"])
            texts = ["(ask (select (items (k x.k) (n x.n)) (from (x t:-))))", f"(insert t:- {key} 1)", "(remove t:- 'x')", "(explain (select (items (k x.k)) (from (x t:-))))"]
            text = chance.choice(texts)
        found.append(("line", user if own else chance.choice(near), text))
    return found + [("line", user, chance.choice(["(commit)", "(commit)", "(commit)", "(abandon)"]))]


def random_history(chance, many):
    history = start()
    while len(history) < many:
        way = chance.random()
        if way < 0.04:
            history += random_release(chance)
        elif way < 0.14:
            history += random_transaction(chance)
        else:
            history.append(random_event(chance))
    return history


def start():
    return [("line", "low", "(table t (k text filled) (n int maybe))"), ("line", "low", "(table u (k int filled) (n int maybe))"),
            ("line", "ann", "(table t (k text filled) (n int maybe))"), ("line", "ann", "(right r bob a)"), ("line", "ann", "(right s tim a)"),
            ("line", "ben", "(right s tim b)"), ("line", "low", "(view v (select (items (k x.k) (n x.n)) (from (x t))))"), ("line", "low", "(flush)"),
            ("line", "low", "(insert t:- 'x' 1)"), ("line", "les", "(insert t:- 'y' 2)"), ("line", "low", "(insert u 1 empty)"),
            ("line", "ann", "(insert t:- 'z' 1)"), ("line", "ann", "(insert u 2 1)"), ("line", "ben", "(insert u 3 2)")]


def desk_of(users=None):
    desk = Desk("a", "b", replicas=REPLICAS)
    for name, label in (USERS if users is None else users).items():
        desk.add_user(name, label)
    return desk


class PurgeTest(unittest.TestCase):
    def test_transcripts(self):
        answers = {}
        for seed in range(60):
            chance = random.Random(seed)
            history = random_history(chance, 110)
            told = played(desk_of(), history)
            for at, _, answer in told:
                word = history[at][2].split(" ")[0] if history[at][0] == "line" else "read"
                kind = "error" if answer[:1].isupper() else "done"
                answers[(word.strip("()"), kind)] = answers.get((word.strip("()"), kind), 0) + 1
            for label in LABELS:
                self.same_is_told(history, told, label)
        for word in ("confirm", "commit", "refresh", "compact", "insert", "remove", "revert", "read", "within", "why", "offer", "reference", "change"):
            self.assertGreater(min(answers[(word, "done")], answers[(word, "error")]), 5, word)

    def same_is_told(self, history, told, label):
        expected = transcript(told, USERS, label)
        left = purge(told, history, USERS, label)
        again = played(desk_of(), left)
        self.assertEqual(transcript(again, USERS, label), expected)
        below = {name: lower for name, lower in USERS.items() if lower.is_below(label)}
        alone = played(desk_of(below), left)
        self.assertEqual(transcript(alone, below, label), expected)
        self.assertEqual(exact(purge(again, left, USERS, label)), exact(left))
        self.assertEqual(exact(purge(alone, left, below, label)), exact(left))
        if label == AB:
            self.assertEqual(exact(left), exact(history))


class Account:
    """A second account of the database: catalogs and layers as the records of the journals make them."""

    def __init__(self):
        self.catalogs = {str(label): [] for label in LABELS}
        self.layers = {str(label): {} for label in LABELS}

    def add(self, text, changes):
        catalog, layer = self.catalogs[text], self.layers[text]
        for change in changes:
            if change[0] == "define":
                catalog.append(change[1])
            elif change[0] == "drop":
                catalog[:] = [told for told in catalog if told[:2] != change[1:]]
                if change[1] == "table":
                    for place in [place for place in layer if place[0] == f"{change[2]}:{text}"]:
                        del layer[place]
            elif change[0] == "put":
                layer[(change[1], change[2][0])] = change[2]
            elif change[0] == "gone":
                layer[(change[1], change[2])] = "gone"
            else:
                layer.pop((change[1], change[2]), None)

    def below(self, label):
        return [str(lower) for lower in sorted(label.below(), key=lambda lower: (len(lower), lower.marks))]

    def tables(self, label):
        return {f"{told[1]}:{text}": told[2] for text in self.below(label) for told in self.catalogs[text] if told[0] == "table"}

    def overlay(self, label):
        found = {}
        for text in self.below(label):
            for place, entry in self.layers[text].items():
                found[place] = (entry, text)
        return {place: told for place, told in found.items() if told[0] != "gone"}

    def entries(self, label, kind):
        return [told for text in self.below(label) for told in self.catalogs[text] if told[0] == kind]

    def standing(self, label):
        """The largest consistent set: what does not fit is taken away, again and again."""
        tables, kept = self.tables(label), self.overlay(label)
        sorts = {"int": int, "text": str, "truth": bool}
        kept = {
            place: (row, text) for place, (row, text) in kept.items()
            if place[0] in tables and len(row) == len(tables[place[0]]) and all(
                may_be_empty if value is None else type(value) is sorts[sort] for (_, sort, may_be_empty), value in zip(tables[place[0]], row))
        }
        names = {source: [column[0] for column in columns] for source, columns in tables.items()}
        for _, _, source, text in self.entries(label, "check"):
            if self.is_truth(text, tables.get(source)):
                kept = {place: told for place, told in kept.items() if place[0] != source
                        or Expression(text).value_in(dict(zip(names[source], told[0]))) is not False}
        while True:
            lost = set()
            for _, _, source, column, target, rule in self.entries(label, "reference"):
                if self.is_link(tables, source, column, target, rule):
                    at = names[source].index(column)
                    lost |= {place for place, (row, _) in kept.items()
                             if place[0] == source and row[at] is not None and (target, row[at]) not in kept}
            if not lost:
                return kept
            kept = {place: told for place, told in kept.items() if place not in lost}

    def is_truth(self, text, columns):
        if columns is None:
            return False
        told = end_of(Expression(text).sort_in, {name: sort for name, sort, _ in columns})
        return told == ("done", "truth")

    def is_link(self, tables, source, column, target, rule):
        if source not in tables or target not in tables:
            return False
        found = [told for told in tables[source] if told[0] == column]
        return bool(found) and found[0][1] == tables[target][0][1] and (rule != "empty" or found[0][2])

    def rows_text(self, label, source):
        """The answer to `(select (items (k x.k) (n x.n)) (from (x source)))`."""
        tables = self.tables(label)
        found = source
        if ":" not in source:
            named = [told for told in tables if told.split(":")[0] == source]
            found = named[-1]
        names = [column[0] for column in tables[found]]
        rows = sorted(row for (other, _), (row, _) in self.standing(label).items() if other == found)
        return " ".join(f"({value_text(row[0])} {value_text(row[names.index('n')])})" for row in rows) or "-"


class SecondAccountTest(unittest.TestCase):
    """The worlds, the answers, crashes and replicas of a desk, told again from the records alone."""

    def setUp(self):
        self.history = {str(label): [] for label in LABELS}

    def note(self, keeper):
        """All records that there are, as they were before a compaction."""
        for label in LABELS:
            mine = self.history[str(label)]
            del mine[keeper.length(label):]
            mine.extend(record for record in keeper.records(label) if record[0] == "record" and record[1] > len(mine))
            self.assertEqual([record[1] for record in mine], list(range(1, keeper.length(label) + 1)))

    def account(self, cut=None):
        made = Account()
        for text, records in self.history.items():
            for record in records if cut is None else records[:cut.get(text, 0)]:
                made.add(text, record[3])
        return made

    def worlds(self, account, world_of, labels):
        for label in labels:
            world = world_of(label)
            rows = {(source, key): (row, str(lower)) for source in world.tables() for key, row, lower in world.rows(source)}
            standing = account.standing(label)
            self.assertEqual(exact(sorted(rows.items(), key=str)), exact(sorted(standing.items(), key=str)))
            lost = {(told[0], told[1]): str(told[2]) for told in world.suspended()}
            overlay = account.overlay(label)
            self.assertEqual(lost, {place: overlay[place][1] for place in overlay if place not in standing})

    def test_random_histories(self):
        asked = at_replicas = 0
        for seed in range(25):
            self.setUp()
            chance = random.Random(1000 + seed)
            desk = desk_of()
            for at, event in enumerate(random_history(chance, 100)):
                durable = {str(label): desk.keeper().durable(label) for label in LABELS}
                was = {text: list(records) for text, records in self.history.items()}
                desk.event(event)
                self.note(desk.keeper())
                if event[0] == "crash":
                    # what is kept are the first ones, all durable ones among them
                    for text, records in self.history.items():
                        self.assertEqual(records, was[text][:len(records)])
                        self.assertGreaterEqual(len(records), durable[text])
                        self.assertTrue(all(record[4][lower] <= len(self.history[lower]) for record in records for lower in record[4]))
                if at % 7 == 0 or event[0] == "crash":
                    account = self.account()
                    self.worlds(account, desk.keeper().world, LABELS)
                    asked += self.asks(desk, account)
                    at_replicas += self.reads(desk)
        self.assertGreater(min(asked, at_replicas), 300)

    def plain(self, source):
        return f"(select (items (k x.k) (n x.n)) (from (x {source})))"

    def asks(self, desk, account):
        asked = 0
        for label in LABELS:
            session = Keeper("a", "b")
            session.restart(desk.keeper().base_copy(), {}, {})
            reader = session.open_session(label)
            for source in account.tables(label):
                rows = reader.do(("ask", self.plain(source)))
                told = " ".join(f"({' '.join(map(value_text, row))})" for row in rows) or "-"
                self.assertEqual(told, account.rows_text(label, source))
                asked += 1
        return asked

    def reads(self, desk):
        asked = 0
        for number, replica in enumerate(desk._replicas):
            cut = replica.present_cut()
            self.assertTrue(all(cut[text] <= len(self.history[text]) for text in cut))
            account = self.account(cut)
            self.worlds(account, replica.world, replica.label.below())
            for user, label in USERS.items():
                if label.is_below(replica.label):
                    for source in account.tables(label):
                        self.assertEqual(desk.read_at(number, user, self.plain(source)), account.rows_text(label, source))
                        asked += 1
        return asked


class SerialTest(unittest.TestCase):
    """[4]: the kept commits below a label, one after another, answer their commands alike and make its world."""

    def command(self, chance):
        key, number = chance.choice("wxyz"), chance.choice([None, 0, 1, 2])
        return chance.choice([
            ("insert", "t", [key, number]), ("insert", "t", [None, number]), ("insert", "u", [chance.randint(0, 3), number]),
            ("change", "t", key, {"n": number}), ("remove", "t", key), ("remove", "u", chance.randint(0, 3)), ("revert", "t", key),
            ("define", chance.choice([Check("c", "t", "(less n 2)"), Index("i", "t", "n"), Reference("r", "t", "n", "u", rule="empty")])),
            ("drop", *chance.choice([("check", "c"), ("index", "i"), ("reference", "r")])), ("suspended",),
            ("ask", "(select (items (k x.k) (n x.n)) (from (x t)))"), ("measure", "(select (items (k x.k)) (from (x t)) (where (same x.n 1)))", 3),
        ])

    def setUp(self):
        self.keeper = Keeper("a", "b")
        self.commits = []
        session = self.keeper.open_session(LOW)
        for entry in (table("t", "k:text", "n:int?"), table("u", "k:int", "n:int?")):
            self.perform(session, [("define", entry)])
        self.keeper.flush(LOW)

    def perform(self, session, commands):
        given, before = session.given, self.keeper.commits(session.label)
        session.begin()
        told = [(command, end_of(session.do, command)) for command in commands]
        self.finish(session, given, told, before)

    def finish(self, session, given, told, before):
        if error_of(session.commit) is None and self.keeper.commits(session.label) > before:
            self.commits.append((session.label, self.keeper.commits(session.label), session.session_number, given, told))

    def test_random_keepers(self):
        many = 0
        for seed in range(40):
            self.setUp()
            chance = random.Random(seed)
            sessions = [self.keeper.open_session(label) for label in LABELS + LABELS]
            open_ones = {}
            for _ in range(70):
                at = chance.randrange(len(sessions))
                session = sessions[at]
                if chance.random() < 0.03:
                    kept = self.keeper.crash({str(label): chance.randint(0, 9) for label in LABELS})
                    self.commits = [commit for commit in self.commits if commit[1] <= kept[str(commit[0])]]
                    sessions = [self.keeper.open_session(label) for label in LABELS + LABELS]
                    open_ones = {}
                elif chance.random() < 0.1:
                    self.keeper.flush(session.label)
                elif at in open_ones:
                    given, told = open_ones[at]
                    if chance.random() < 0.4:
                        del open_ones[at]
                        self.finish(session, given, told, self.keeper.commits(session.label))
                    else:
                        command = self.command(chance)
                        told.append((command, end_of(session.do, command)))
                elif chance.random() < 0.5:
                    open_ones[at] = (session.given, [])
                    session.begin()
                else:
                    self.perform(session, [self.command(chance)])
            many += len(self.commits)
            self.assertEqual(sorted((str(commit[0]), commit[1]) for commit in self.commits),
                             sorted((str(label), record[1]) for label in LABELS for record in self.keeper.records(label)))
            for label in LABELS:
                self.one_after_another(label)
        self.assertGreater(many, 200)

    def one_after_another(self, label):
        base = Base("a", "b")
        for lower, number, session, given, told in self.commits:
            if lower.is_below(label):
                writer = Writer(base, lower, session=session, given=given)
                for command, outcome in told:
                    self.assertEqual(exact(end_of(perform, writer, command)), exact(outcome))
        self.assertEqual(base.world(label), self.keeper.world(label))


if __name__ == "__main__":
    unittest.main()
