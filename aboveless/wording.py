"""How answers and errors are written."""

from aboveless.values import value_text

# where the errors tell a key: the position in the tuple of their name and attributes
KEY_PLACES = {
    "NoEntry": 1, "NoRow": 1, "Taken": 1, "Waiting": 1, "Missing": 2, "Broken": 2, "Restricted": 2, "WouldSuspend": 2,
}


def list_text(texts):
    return " ".join(texts) or "-"


def in_parentheses(texts):
    return f"({' '.join(texts)})"


def row_text(row):
    return in_parentheses([value_text(value) for value in row])


def rows_text(rows):
    return list_text([row_text(row) for row in rows])


def key_text(key):
    return value_text(key)


def keys_text(keys):
    return list_text([key_text(key) for key in keys])


def places_text(places):
    return list_text([f"({source} {key_text(key)})" for source, key in places])


def measured_text(measured):
    rows, steps = measured
    return f"{steps} {rows_text(rows)}"


def explained_text(told):
    return "; ".join(told)


def reason_text(reason):
    """The reason of a suspended row; that of a reference ends in a key."""
    if reason[0] != "reference":
        return in_parentheses(reason)
    word, name, label, key = reason
    return f"({word} {name} {label} {key_text(key)})"


def suspended_text(rows):
    return list_text([
        f"({source} {key_text(key)} {label} {number} {reason_text(reason)})"
        for source, key, label, number, reason in rows
    ])


def number_text(number):
    return str(number)


# how what a command returned is written; all other commands are answered with `-`
ANSWERS = {
    "insert": key_text, "remove": places_text, "ask": rows_text, "measure": measured_text,
    "explain": explained_text, "why": places_text, "suspended": suspended_text, "confirm": keys_text,
    "commit": number_text, "refresh": number_text, "flush": number_text, "offer": number_text,
}


def answer_text(word, returned):
    """The answer to a command with this word that returned something."""
    if word not in ANSWERS:
        return "-"
    action = ANSWERS[word]
    return action(returned)


def wrong_text(wrong):
    """The wrong values of an insert, or the columns with the wrong values of a change."""
    texts = [f"({part[0]} {value_text(part[1])})" if isinstance(part, tuple) else value_text(part) for part in wrong]
    return in_parentheses(texts)


def attribute_text(value):
    return "-" if value is None else str(value)


def outcome_text(word, outcome):
    """The outcome of a command with this word."""
    how, told = outcome
    answer = answer_text(word, told) if how == "done" else error_text(told, [])
    return f"({how} {answer})"


def error_text(told, words):
    """The answer that is an error, told as a tuple; words are those of the commands of the transaction."""
    name = told[0]
    if name == "InvalidLine":
        return name
    if name == "WrongValues":
        return f"{name} {wrong_text(told[1])}"
    if name == "WrongSort":
        return f"{name} {in_parentheses([str(part) for part in told[1]])}"
    if name == "ReplayDiffers":
        word = words[told[1]]
        return f"{name} {told[1]} {outcome_text(word, told[2])} {outcome_text(word, told[3])}"
    key_place = KEY_PLACES.get(name)
    texts = [value_text(part) if at == key_place else attribute_text(part) for at, part in enumerate(told)]
    return " ".join(texts)
