"""The desk: users, their lines and answers, and what else happens."""

from aboveless.errors import (
    InvalidCount, InvalidError, InvalidEvent, InvalidLabel, InvalidName, LimitError, MissingError, NameTaken,
    NotAllowed, OwnOffer, StateError, UnknownUser, told_error
)
from aboveless.events import is_event
from aboveless.journals import Keeper
from aboveless.labels import Label
from aboveless.lines import read_line, session_command
from aboveless.releases import Offers, may_release
from aboveless.replicas import Replica, deliver
from aboveless.values import is_count, is_integer, is_name, value_text
from aboveless.wording import answer_text, error_text

MOST_WIDTH = 60
# the lines that are calls of a session, and those that the desk answers outside of transactions
SESSION_WORDS = ("begin", "commit", "abandon", "refresh", "forget")
DESK_WORDS = ("flush", "compact", "offer", "confirm")


def cell_text(value, width):
    text = value_text(value)
    return text.rjust(width) if is_integer(value) else text.ljust(width)


def columns_text(rows, *, width=10):
    if not is_integer(width) or not 1 <= width <= MOST_WIDTH:
        raise InvalidCount(width)
    lines = [" ".join([cell_text(value, width) for value in row]) for row in rows]
    return "\n".join([line.rstrip(" ") for line in lines])


def session_call(session, told):
    """What the call of a session returns that a line tells."""
    word = told[0]
    if word == "begin":
        return session.begin()
    if word == "commit":
        return session.commit()
    if word == "abandon":
        return session.abandon()
    if word == "refresh":
        return session.refresh(told[1])
    return session.forget(told[1])


class Desk:
    """A keeper and replicas for users who write lines."""

    def __init__(self, *marks, replicas=()):
        self._keeper = Keeper(*marks)
        self._replicas = [Replica(label, *marks) for label in replicas]
        self._labels = {}
        self._sessions = {}
        self._offers = Offers()

    def _require_user(self, user):
        if not isinstance(user, str) or user not in self._labels:
            raise UnknownUser(user)

    def _replica_at(self, number):
        if not is_count(number) or number >= len(self._replicas):
            raise InvalidCount(number)
        return self._replicas[number]

    def _session_of(self, user):
        """The session of a user; a new one with the first line behind a crash."""
        if user not in self._sessions:
            self._sessions[user] = self._keeper.open_session(self._labels[user])
        return self._sessions[user]

    def add_user(self, name, label):
        if not is_name(name):
            raise InvalidName(name)
        if name in self._labels:
            raise NameTaken(name)
        self._sessions[name] = self._keeper.open_session(label)
        self._labels[name] = label

    def users(self):
        return dict(self._labels)

    def line(self, user, text):
        self._require_user(user)
        session = self._session_of(user)
        # the transaction is over when its commit is refused
        words = session.words()
        try:
            return self._answer(user, session, read_line(text))
        except (InvalidError, MissingError, StateError, LimitError) as error:
            return error_text(told_error(error), words)

    def _answer(self, user, session, told):
        """The answer to a line without errors."""
        if told[0] in SESSION_WORDS:
            return answer_text(told[0], session_call(session, told))
        if told[0] in DESK_WORDS:
            session.require_free()
            return answer_text(told[0], self._desk_call(user, told))
        command = session_command(told)
        return answer_text(command[0], session.do(command))

    def _desk_call(self, user, told):
        """What the desk returns for a line outside of a transaction."""
        label = self._labels[user]
        if told[0] == "flush":
            return self._keeper.flush(label)
        if told[0] == "compact":
            return self._keeper.compact(label, told[1])
        if told[0] == "offer":
            return self._offer(user, told)
        return self._confirm(user, told[1])

    def _offer(self, user, told):
        word, table, lower, rows = told
        label = self._labels[user]
        if lower == label or not lower.is_below(label):
            raise InvalidLabel(lower)
        return self._offers.add_offer(label, (user, table, lower, rows))

    def _confirm(self, user, number):
        label = self._labels[user]
        offering, table, lower, rows = self._offers.offer_at(label, number)
        if offering == user:
            raise OwnOffer(number)
        world = self._keeper.world(label)
        for mark in label.marks:
            if mark not in lower and not may_release(world, user, mark):
                raise NotAllowed(mark)
        keys = self._keeper.arrive(lower, table, rows)
        self._offers.take_offer(label, number)
        return keys

    def crash(self, kept=None):
        found = self._keeper.crash(kept)
        self._sessions = {}
        self._offers = Offers()
        return found

    def deliver(self, replica, label, count):
        return deliver(self._replica_at(replica), self._keeper, label, count)

    def read_at(self, replica, user, text):
        found = self._replica_at(replica)
        self._require_user(user)
        try:
            rows, cut = found.ask(self._labels[user], text)
        except (InvalidError, MissingError, StateError, LimitError) as error:
            return error_text(told_error(error), [])
        return answer_text("ask", rows)

    def arrive(self, label, table, rows):
        return self._keeper.arrive(label, table, rows)

    def _try_arrival(self, label, table, rows):
        self._keeper.require_label(label)
        try:
            self._keeper.arrive(label, table, rows)
        except (InvalidError, MissingError, StateError, LimitError):
            # nothing is inserted then, and nobody is told
            return

    def keeper(self):
        return self._keeper

    def event(self, event):
        if not is_event(event):
            raise InvalidEvent(event)
        if event[0] == "line":
            return self.line(event[1], event[2])
        if event[0] == "read":
            return self.read_at(event[1], event[2], event[3])
        if event[0] == "crash":
            self.crash(event[1])
        elif event[0] == "deliver":
            self.deliver(event[1], Label.of_text(event[2]), event[3])
        else:
            self._try_arrival(Label.of_text(event[1]), event[2], event[3])
        return None
