"""What the tests share: how a call ends, and values of every kind."""

import copy

from aboveless import errors
from aboveless.labels import Label

OWN_ERRORS = (errors.InvalidError, errors.MissingError, errors.StateError, errors.LimitError)


def end_of(call, *given, **named):
    """("done", what a call returned) or ("error", the tuple of its error)."""
    try:
        return ("done", call(*given, **named))
    except OWN_ERRORS as error:
        return ("error", errors.told_error(error))


def error_of(call, *given, **named):
    """The tuple of the error of a call; None if it raised none."""
    word, told = end_of(call, *given, **named)
    return told if word == "error" else None


def exact(value):
    """A value in a form in which True and 1 differ, for comparisons."""
    if isinstance(value, (list, tuple)):
        return (type(value).__name__, [exact(part) for part in value])
    if isinstance(value, dict):
        return ("dict", [(exact(key), exact(part)) for key, part in value.items()])
    return (type(value).__name__, value)


def unchanged(check, call, *given):
    """Calls with these arguments, checks that none was changed, returns what was returned."""
    before = copy.deepcopy(given)
    returned = call(*given)
    check.assertEqual(exact(before), exact(given))
    return returned


class Odd:
    """An object that cannot be compared, hashed or tested."""

    def __eq__(self, other):
        raise RuntimeError("asked whether it is equal")

    def __hash__(self):
        raise RuntimeError("asked for its hash")

    def __bool__(self):
        raise RuntimeError("asked for its truth")


def every_kind():
    """Values of every kind but floats."""
    integers = [0, 1, -1, 7, 10 ** 28, 10 ** 29 - 1, 10 ** 29, 10 ** 30 - 1, 10 ** 30, 10 ** 31 - 1, 10 ** 39]
    strings = ["", "a", "b", "true", "int", "text", "empty", "abcdefgh", "abcdefghi", "A", "aB", "a1", "a b", "-", "+"]
    strings += ["x" * 60, "x" * 61, "'", "it's", "1", "gone", "'a'", "(a)", "a:-", "a+b", "a.b"]
    others = [None, [], [1], (), (1,), ("a", 1), {}, {"a": 1}, Label(), Label("a"), Label("a", "b")]
    others += [b"", b"a", set(), {1}, frozenset(), object(), Odd(), len, int, range(3), ValueError("a"), 2j]
    return [True, False] + integers + [-number for number in integers if number > 1] + strings + others
