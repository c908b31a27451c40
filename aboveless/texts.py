"""Texts in parentheses, and the parts of them."""

from aboveless.errors import InvalidText

MOST_NESTED = 13
# which kinds of tokens may follow a kind; `w` is a word or a quoted string
FOLLOWERS = {"(": "()w", ")": " )", "w": " )", " ": "(w"}
NESTING = {"(": 1, ")": -1}


def parts_of(text):
    if not isinstance(text, str):
        raise InvalidText("string")
    parts = split_text(text)
    if parts is None:
        raise InvalidText("form")
    return parts


def split_text(text):
    """The parts of a text in parentheses; None if a string has not this form."""
    tokens = tokens_of(text)
    if not are_in_sequence(tokens) or not are_nested(tokens):
        return None
    return outer_parts(tokens[1:-1])


def tokens_of(text):
    """The tokens of a string, in sequence; none if a quoted string in it does not end."""
    tokens = []
    at = 0
    while at < len(text):
        end = token_end(text, at)
        if end <= at:
            return []
        tokens.append(text[at:end])
        at = end
    return tokens


def token_end(text, at):
    """The position behind the token that begins at a position; 0 if it does not end."""
    if text[at] in "() ":
        return at + 1
    if text[at] == "'":
        return text.find("'", at + 1) + 1
    end = at
    while end < len(text) and text[end] not in "() '":
        end += 1
    return end


def token_kind(token):
    return token if token in ("(", ")", " ") else "w"


def are_in_sequence(tokens):
    kinds = [token_kind(token) for token in tokens]
    return all([kind in FOLLOWERS[before] for before, kind in zip(kinds, kinds[1:])])


def are_nested(tokens):
    """Whether the first token opens what the last one closes, not nested too deep."""
    depths = []
    depth = 0
    for token in tokens:
        depth += NESTING.get(token, 0)
        depths.append(depth)
    inner = depths[:-1]
    return depths[-1:] == [0] and inner != [] and min(inner) > 0 and max(inner) <= MOST_NESTED


def outer_parts(tokens):
    """The parts that these tokens make, told apart by the spaces that stand in no parentheses."""
    if tokens == []:
        return []
    parts = [""]
    depth = 0
    for token in tokens:
        depth += NESTING.get(token, 0)
        if token == " " and depth == 0:
            parts.append("")
        else:
            parts[-1] += token
    return parts
