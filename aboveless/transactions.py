"""Transactions: commands on a copy of the database, with their outcomes."""

from aboveless.commands import are_same_outcomes, copied_command, copied_result, perform
from aboveless.errors import InvalidError, LimitError, MissingError, StateError, told_error
from aboveless.writes import Writer


class Transaction:
    """Commands of a session, performed on a copy of the database that nothing else changes."""

    def __init__(self, copied, label, session, given):
        self._writer = Writer(copied, label, session=session, given=given)
        self._label = label
        self._session = session
        self._begun = given
        self._commands = []
        self._outcomes = []

    @property
    def given(self):
        return self._writer.given

    def perform_command(self, command):
        """Performs one more command; returns what it returns, or raises its error."""
        kept = copied_command(command)
        self._commands.append(kept)
        try:
            returned = perform(self._writer, kept)
        except (InvalidError, MissingError, StateError, LimitError) as error:
            self._outcomes.append(("error", told_error(error)))
            raise
        self._outcomes.append(("done", copied_result(returned)))
        return returned

    def _repeat_command(self, command):
        try:
            self.perform_command(command)
        except (InvalidError, MissingError, StateError, LimitError):
            # it is told by the outcome
            return

    def repeated(self, copied):
        """The same commands in sequence, as a transaction on another copy of the database."""
        again = Transaction(copied, self._label, self._session, self._begun)
        for command in list(self._commands):
            again._repeat_command(command)
        return again

    def first_difference(self, again):
        """The position of the first command with another outcome; None if there is none."""
        for at, outcome in enumerate(self._outcomes):
            if not are_same_outcomes(outcome, again.outcome_at(at)):
                return at
        return None

    def outcome_at(self, position):
        return self._outcomes[position]

    def words(self):
        """The words of the commands, in sequence."""
        return [command[0] for command in self._commands]

    def changes(self):
        return self._writer.changes()
