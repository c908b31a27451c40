"""Histories: how they are played, what is told in them, and what is left of them for a label."""

from aboveless.errors import InvalidLine
from aboveless.labels import Label, check_label
from aboveless.lines import is_count_text, read_line

# where the events that are answered tell the user
USER_PLACES = {"line": 1, "read": 2}


def user_of(event):
    return event[USER_PLACES[event[0]]]


def played(desk, history):
    told = []
    for at, event in enumerate(history):
        answer = desk.event(event)
        if answer is not None:
            told.append((at, user_of(event), answer))
    return told


def transcript(told, users, label):
    check_label(label)
    return [answer for at, user, answer in told if users[user].is_below(label)]


def line_told(event):
    """What a line tells; only its word where there is none."""
    if event[0] != "line":
        return ("",)
    try:
        return read_line(event[2])
    except InvalidLine:
        return ("",)


def is_confirmed(answer):
    """Whether the answer to a confirming line tells keys: errors begin with capital letters."""
    return not answer[:1].isupper()


def released(told, history, users):
    """The dict from the positions of lines that confirm with success to the arrivals that they make."""
    answers = {at: answer for at, user, answer in told}
    offers = {}
    arrivals = {}
    for at, event in enumerate(history):
        line = line_told(event)
        if line[0] == "offer" and is_count_text(answers[at]):
            # behind a crash it takes the place of an earlier one with this number
            word, table, lower, rows = line
            offers[(str(users[event[1]]), int(answers[at]))] = ("arrive", str(lower), table, rows)
        elif line[0] == "confirm" and is_confirmed(answers[at]):
            arrivals[at] = offers.get((str(users[event[1]]), line[1]))
    return arrivals


def is_text_below(text, label):
    return Label.of_text(text).is_below(label)


def copied_list(value):
    """A list that is new; a tuple stays one."""
    return list(value) if isinstance(value, list) else value


def copied_rows(rows):
    """The rows of an arrival, with lists that are new."""
    copied = [copied_list(row) for row in rows]
    return copied if isinstance(rows, list) else tuple(copied)


def event_below(event, users, label):
    """What is left of an event for a label; None if nothing is."""
    word = event[0]
    if word in USER_PLACES:
        return event if users[user_of(event)].is_below(label) else None
    if word == "crash":
        return (word, {text: event[1][text] for text in event[1] if is_text_below(text, label)})
    if word == "deliver":
        return event if is_text_below(event[2], label) else None
    return (word, event[1], event[2], copied_rows(event[3])) if is_text_below(event[1], label) else None


def purge(told, history, users, label):
    check_label(label)
    arrivals = released(told, history, users)
    left = []
    for at, event in enumerate(history):
        kept = event_below(event, users, label)
        if kept is None and arrivals.get(at) is not None:
            kept = event_below(arrivals[at], users, label)
        if kept is not None:
            left.append(kept)
    return left
