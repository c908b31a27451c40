"""Engines and their sessions: commands, transactions, commits and memos."""

from aboveless.answers import answer
from aboveless.base import Base
from aboveless.commands import is_command
from aboveless.errors import InTransaction, InvalidCommand, NoMemo, NoTransaction, ReplayDiffers, SessionEnded
from aboveless.labels import Label
from aboveless.memos import Memos, differing
from aboveless.transactions import Transaction


class Session:
    """Performs commands at one label of an engine, one after another."""

    def __init__(self, engine, label, number):
        self._engine = engine
        self._label = label
        self._number = number
        self._crashes = engine.crash_count()
        self._given = 0
        self._transaction = None

    @property
    def label(self):
        return self._label

    @property
    def session_number(self):
        return self._number

    @property
    def in_transaction(self):
        return self._transaction is not None

    @property
    def given(self):
        return self._given if self._transaction is None else self._transaction.given

    def _require_life(self):
        if self._crashes != self._engine.crash_count():
            raise SessionEnded(self._number)

    def _require_transaction(self):
        self._require_life()
        if self._transaction is None:
            raise NoTransaction(self._number)

    def require_free(self):
        """Raises InTransaction within a transaction."""
        self._require_life()
        if self._transaction is not None:
            raise InTransaction(self._number)

    def _new_transaction(self):
        return Transaction(self._engine.base_copy(), self._label, self._number, self._given)

    def _keep(self, transaction):
        """Makes the changes of a transaction in the database."""
        self._given = transaction.given
        self._engine.make_commit(self._label, self._number, transaction.changes())

    def begin(self):
        self.require_free()
        self._transaction = self._new_transaction()

    def do(self, command):
        self._require_life()
        if not is_command(command):
            raise InvalidCommand(command)
        if self._transaction is not None:
            return self._transaction.perform_command(command)
        alone = self._new_transaction()
        returned = alone.perform_command(command)
        self._keep(alone)
        return returned

    def words(self):
        """The words of the commands of the open transaction, in sequence; none if there is none."""
        return [] if self._transaction is None else self._transaction.words()

    def commit(self):
        self._require_transaction()
        ended = self._transaction
        self._transaction = None
        again = ended.repeated(self._engine.base_copy())
        position = ended.first_difference(again)
        if position is not None:
            raise ReplayDiffers(position, ended.outcome_at(position), again.outcome_at(position))
        self._keep(again)
        return len(ended.words())

    def abandon(self):
        self._require_transaction()
        self._transaction = None

    def refresh(self, view):
        self.require_free()
        world = self._engine.world(self._label)
        source = world.view_id(view)
        memos = self._engine.memos()
        many = differing(world, memos.world_at(self._label, source))
        memos.keep_memo(self._label, source, answer(world, world.view_query(source)), world)
        return many

    def _memo_source(self, view):
        """The ID of a view that has a memo at the own label."""
        source = self._engine.world(self._label).view_id(view)
        if not self._engine.memos().has_memo(self._label, source):
            raise NoMemo(view)
        return source

    def memo(self, view):
        self._require_life()
        return self._engine.memos().rows_at(self._label, self._memo_source(view))

    def forget(self, view):
        self.require_free()
        self._engine.memos().take_memo(self._label, self._memo_source(view))


class Engine:
    """A database with sessions."""

    def __init__(self, *marks):
        self._base = Base(*marks)
        # from texts of labels: how many commits, and the number of the next session
        self._commits = {}
        self._sessions = {}
        self._memos = Memos()
        self._crashes = 0

    @property
    def marks(self):
        return self._base.marks

    def base_copy(self):
        return self._base.clone()

    def open_session(self, label):
        self._base.require_label(label)
        number = self._sessions.get(str(label), 0)
        self._sessions[str(label)] = number + 1
        return Session(self, label, number)

    def commits(self, label):
        self._base.require_label(label)
        return self._commits.get(str(label), 0)

    def require_label(self, label):
        self._base.require_label(label)

    def labels(self):
        """All labels that can be made of the marks, in order."""
        marks = self._base.marks
        highest = Label(*marks)
        return list(highest.below())

    def world(self, label):
        return self._base.world(label)

    def memos(self):
        return self._memos

    def crash_count(self):
        """How many crashes there were; a session ends with the next one."""
        return self._crashes

    def make_commit(self, label, session, changes):
        """Makes changes at a label; no changes are no commit."""
        if changes:
            self._base.apply(label, changes)
            self.count_commit(label, session, changes)

    def count_commit(self, label, session, changes):
        self._commits[str(label)] = self.commits(label) + 1

    def restart(self, base, commits, sessions):
        """Begins behind a crash: with a database, and dicts from texts of labels to numbers."""
        self._base = base
        self._commits = dict(commits)
        self._sessions = dict(sessions)
        self._memos = Memos()
        self._crashes += 1
