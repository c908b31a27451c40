"""Commands of sessions: their form, how they are performed, and how their outcomes are compared."""

from aboveless.answers import answer, basis
from aboveless.entries import Check, Index, Reference, Right, Table, View, entry_of
from aboveless.labels import Label
from aboveless.plans import explained, measure
from aboveless.queries import Query
from aboveless.values import value_rank

# outcomes have no parts that are nested deeper than this
DEEPEST = 6


def insert_row(writer, table, values):
    return writer.add_row(table, values)


def change_columns(writer, table, key, columns):
    return writer.change_row(table, key, columns)


def remove_row(writer, table, key):
    return writer.take_row(table, key)


def revert_key(writer, table, key):
    return writer.revert_row(table, key)


def define_entry(writer, entry):
    return writer.define(entry)


def drop_entry_of(writer, kind, name):
    return writer.drop(kind, name)


def ask_query(writer, text):
    query = Query(text)
    return answer(writer.own_world(), query)


def measure_query(writer, text, bound):
    query = Query(text)
    return measure(writer.own_world(), query, within=bound)


def explain_query(writer, text):
    query = Query(text)
    return explained(writer.own_world(), query)


def why_of_query(writer, text, position):
    query = Query(text)
    return basis(writer.own_world(), query, position)


def suspended_rows(writer):
    return writer.own_world().suspended()


ACTIONS = {
    "insert": insert_row,
    "change": change_columns,
    "remove": remove_row,
    "revert": revert_key,
    "define": define_entry,
    "drop": drop_entry_of,
    "ask": ask_query,
    "measure": measure_query,
    "explain": explain_query,
    "why": why_of_query,
    "suspended": suspended_rows,
}
# how many elements the command with this word has
SIZES = {
    "insert": 3, "change": 4, "remove": 3, "revert": 3, "define": 2, "drop": 3,
    "ask": 2, "measure": 3, "explain": 2, "why": 3, "suspended": 1,
}


def is_command(value):
    if not isinstance(value, tuple) or len(value) == 0 or not isinstance(value[0], str):
        return False
    if SIZES.get(value[0]) != len(value):
        return False
    if value[0] == "insert":
        return isinstance(value[2], (list, tuple))
    if value[0] == "change":
        return isinstance(value[3], dict) and all([isinstance(column, str) for column in value[3]])
    return True


def copied_command(command):
    """The command with copies of what its caller could still change."""
    word = command[0]
    if word == "insert":
        return (word, command[1], list(command[2]))
    if word == "change":
        return (word, command[1], command[2], dict(command[3]))
    if word == "define" and isinstance(command[1], (Table, View, Check, Reference, Index, Right)):
        return (word, entry_of(command[1].told()))
    return command


def perform(writer, command):
    """What a command returns that a writer performs; raises the errors of the command."""
    action = ACTIONS[command[0]]
    details = command[1:]
    return action(writer, *details)


def copied_result(value):
    """What a command returned, with lists that are new."""
    if isinstance(value, list):
        return [copied_result(part) for part in value]
    if isinstance(value, tuple):
        return tuple([copied_result(part) for part in value])
    return value


def outcome_form(value, depth):
    """A part of an outcome, at this depth, in a form in which 1 and True are not equal."""
    if isinstance(value, (list, tuple)) and depth < DEEPEST:
        return ("parts", tuple([outcome_form(part, depth + 1) for part in value]))
    if isinstance(value, Label):
        return ("label", str(value))
    if value is None or isinstance(value, (int, str)):
        return value_rank(value)
    # it is a part of the command itself, so it is the same one in the other outcome
    return ("other",)


def are_same_outcomes(first, second):
    return outcome_form(first, 0) == outcome_form(second, 0)
