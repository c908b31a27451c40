"""Labels: sets of marks, and which of them is below which."""

from aboveless.errors import InvalidLabel, InvalidName, InvalidText, TooMany
from aboveless.values import is_name


def check_label(value):
    if not isinstance(value, Label):
        raise InvalidLabel(value)


def marks_rank(marks):
    return (len(marks), tuple(marks))


def label_rank(label):
    return marks_rank(label.marks)


def in_order(labels):
    found = {}
    for label in labels:
        check_label(label)
        found[str(label)] = label
    return sorted(list(found.values()), key=label_rank)


def marks_of_text(text):
    """The marks of the label with this text; None if it is not the text of a label."""
    if text == "-":
        return []
    marks = text.split("+")
    if len(marks) > Label.MOST or not all([is_name(mark) for mark in marks]):
        return None
    return marks if marks == sorted(set(marks)) else None


def is_label_text(text):
    """Whether a string is the text of a label."""
    return marks_of_text(text) is not None


class Label:
    """A set of at most four marks; it does not change."""

    MOST = 4

    def __init__(self, *marks):
        for mark in marks:
            if not is_name(mark):
                raise InvalidName(mark)
        different = sorted(set(marks))
        if len(different) > Label.MOST:
            raise TooMany("marks", Label.MOST)
        self._marks = tuple(different)
        self._text = "+".join(different) or "-"

    @classmethod
    def of_text(cls, text):
        if not isinstance(text, str):
            raise InvalidText("string")
        marks = marks_of_text(text)
        if marks is None:
            raise InvalidText("label")
        return Label(*marks)

    @property
    def marks(self):
        return self._marks

    def is_below(self, other):
        check_label(other)
        return all([mark in other.marks for mark in self._marks])

    def below(self):
        subsets = [()]
        for mark in self._marks:
            subsets = subsets + [subset + (mark,) for subset in subsets]
        for marks in sorted(subsets, key=marks_rank):
            yield Label(*marks)

    def __or__(self, other):
        check_label(other)
        marks = self._marks + other.marks
        return Label(*marks)

    def __and__(self, other):
        check_label(other)
        marks = [mark for mark in self._marks if mark in other.marks]
        return Label(*marks)

    def __contains__(self, mark):
        return isinstance(mark, str) and mark in self._marks

    def __eq__(self, other):
        return isinstance(other, Label) and self._marks == other._marks

    def __len__(self):
        return len(self._marks)

    def __str__(self):
        return str(self._text)

    def __repr__(self):
        return f"Label({', '.join([repr(mark) for mark in self._marks])})"
