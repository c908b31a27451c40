"""The errors of the program, and what of them is told."""


def told_error(error):
    """The tuple of the name of the class of an error and its attributes, in sequence."""
    return (error.__class__.__name__,) + error._told


class InvalidError(ValueError):
    """A value, a text or a row has not the form that is required."""


class InvalidName(InvalidError):
    def __init__(self, value):
        self.value = value
        self._told = (value,)


class InvalidLabel(InvalidError):
    def __init__(self, value):
        self.value = value
        self._told = (value,)


class InvalidText(InvalidError):
    def __init__(self, problem):
        self.problem = problem
        self._told = (problem,)


class InvalidRow(InvalidError):
    def __init__(self, value):
        self.value = value
        self._told = (value,)


class InvalidKey(InvalidError):
    def __init__(self, value):
        self.value = value
        self._told = (value,)


class InvalidColumns(InvalidError):
    def __init__(self, position):
        self.position = position
        self._told = (position,)


class InvalidRule(InvalidError):
    def __init__(self, rule):
        self.rule = rule
        self._told = (rule,)


class InvalidSource(InvalidError):
    def __init__(self, value):
        self.value = value
        self._told = (value,)


class InvalidEntry(InvalidError):
    def __init__(self, value):
        self.value = value
        self._told = (value,)


class InvalidCount(InvalidError):
    def __init__(self, value):
        self.value = value
        self._told = (value,)


class InvalidCommand(InvalidError):
    def __init__(self, value):
        self.value = value
        self._told = (value,)


class InvalidLine(InvalidError):
    def __init__(self, value):
        self.value = value
        self._told = (value,)


class InvalidEvent(InvalidError):
    def __init__(self, value):
        self.value = value
        self._told = (value,)


class WrongValues(InvalidError):
    def __init__(self, wrong):
        self.wrong = wrong
        self._told = (wrong,)


class WrongSort(InvalidError):
    def __init__(self, place):
        self.place = place
        self._told = (place,)


class MissingError(LookupError):
    """Something that is named does not exist."""


class UnknownSource(MissingError):
    def __init__(self, source):
        self.source = source
        self._told = (source,)


class UnknownColumn(MissingError):
    def __init__(self, column):
        self.column = column
        self._told = (column,)


class UnknownKind(MissingError):
    def __init__(self, kind):
        self.kind = kind
        self._told = (kind,)


class UnknownEntry(MissingError):
    def __init__(self, name):
        self.name = name
        self._told = (name,)


class NoEntry(MissingError):
    def __init__(self, key):
        self.key = key
        self._told = (key,)


class NoRow(MissingError):
    def __init__(self, key):
        self.key = key
        self._told = (key,)


class NoMemo(MissingError):
    def __init__(self, view):
        self.view = view
        self._told = (view,)


class UnknownUser(MissingError):
    def __init__(self, name):
        self.name = name
        self._told = (name,)


class UnknownOffer(MissingError):
    def __init__(self, number):
        self.number = number
        self._told = (number,)


class StateError(RuntimeError):
    """Something cannot be done as things are."""


class NameTaken(StateError):
    def __init__(self, name):
        self.name = name
        self._told = (name,)


class Taken(StateError):
    def __init__(self, key):
        self.key = key
        self._told = (key,)


class Waiting(StateError):
    def __init__(self, key):
        self.key = key
        self._told = (key,)


class Missing(StateError):
    def __init__(self, reference, key):
        self.reference = reference
        self.key = key
        self._told = (reference, key)


class Broken(StateError):
    def __init__(self, check, key):
        self.check = check
        self.key = key
        self._told = (check, key)


class Restricted(StateError):
    def __init__(self, reference, key):
        self.reference = reference
        self.key = key
        self._told = (reference, key)


class InUse(StateError):
    def __init__(self, kind, name):
        self.kind = kind
        self.name = name
        self._told = (kind, name)


class WouldSuspend(StateError):
    def __init__(self, source, key):
        self.source = source
        self.key = key
        self._told = (source, key)


class ReplayDiffers(StateError):
    def __init__(self, position, was, now):
        self.position = position
        self.was = was
        self.now = now
        self._told = (position, was, now)


class InTransaction(StateError):
    def __init__(self, session):
        self.session = session
        self._told = (session,)


class NoTransaction(StateError):
    def __init__(self, session):
        self.session = session
        self._told = (session,)


class SessionEnded(StateError):
    def __init__(self, session):
        self.session = session
        self._told = (session,)


class OwnOffer(StateError):
    def __init__(self, number):
        self.number = number
        self._told = (number,)


class NotAllowed(StateError):
    def __init__(self, mark):
        self.mark = mark
        self._told = (mark,)


class OutOfSequence(StateError):
    def __init__(self, number):
        self.number = number
        self._told = (number,)


class Behind(StateError):
    def __init__(self, cut):
        self.cut = cut
        self._told = (cut,)


class LimitError(ArithmeticError):
    """Something is more than is allowed."""


class TooMany(LimitError):
    def __init__(self, kind, limit):
        self.kind = kind
        self.limit = limit
        self._told = (kind, limit)


class TooDear(LimitError):
    def __init__(self, limit):
        self.limit = limit
        self._told = (limit,)
