"""What the rows of tables must satisfy, and which of them are suspended."""

from aboveless.values import is_value


class RowRules:
    """What a row of a standing table must satisfy by itself, and to what it refers."""

    def __init__(self, column_list):
        self.column_list = tuple(column_list)
        self.names = tuple([name for name, sort, may_be_empty in column_list])
        self._checks = []
        self._references = []

    def add_check(self, label, check):
        self._checks.append((label, check))

    def add_reference(self, label, reference):
        self._references.append((label, reference))

    def fits(self, row):
        if len(row) != len(self.column_list):
            return False
        pairs = list(zip(self.column_list, row))
        return all([is_value(sort, value, may_be_empty=empty) for (name, sort, empty), value in pairs])

    def false_check(self, row):
        """The tuple (label, check) of the first check that is false for a row that fits, or None."""
        values = dict(zip(self.names, row))
        for label, check in self._checks:
            if check.condition.value_in(values) is False:
                return (label, check)
        return None

    def referred(self, row):
        """The tuples (label, reference, key) of the references of a row that fits, the empty ones left out."""
        values = dict(zip(self.names, row))
        keys = [(label, reference, values[reference.column]) for label, reference in self._references]
        return [(label, reference, key) for label, reference, key in keys if key is not None]


def rules_of_tables(entries):
    """The dict from the IDs of tables to their rules; entries are the standing ones with their IDs."""
    rules = {source: RowRules(entry.column_list) for source, label, entry in entries if entry.KIND == "table"}
    for source, label, entry in entries:
        if entry.KIND == "check":
            rules[entry.table].add_check(label, entry)
        if entry.KIND == "reference":
            rules[entry.table].add_reference(label, entry)
    return rules


def reference_reason(label, reference, key):
    return ("reference", reference.name, str(label), key)


def first_reason(rules, row, places):
    """Why a row of a standing table is suspended in round 1; None if it is not.

    places has the tuples (ID, key) of all rows of the overlays.
    """
    if not rules.fits(row):
        return ("row",)
    found = rules.false_check(row)
    if found is not None:
        label, check = found
        return ("check", check.name, str(label))
    for label, reference, key in rules.referred(row):
        if (reference.target, key) not in places:
            return reference_reason(label, reference, key)
    return None


def first_round(rules, overlays):
    """The dict from (ID, key) to the reasons of the rows that are suspended in round 1."""
    places = {(source, key): True for source in overlays for key, row, label in overlays[source]}
    reasons = {}
    for source in overlays:
        for key, row, label in overlays[source]:
            reason = first_reason(rules[source], row, places) if source in rules else ("table",)
            if reason is not None:
                reasons[(source, key)] = reason
    return reasons


def links_of(rules, overlays, lost):
    """The tuples (place, place to which it refers, reason) of the rows that are not lost in round 1."""
    links = []
    for source in overlays:
        for key, row, label in overlays[source]:
            if (source, key) not in lost:
                for lower, reference, referred in rules[source].referred(row):
                    reason = reference_reason(lower, reference, referred)
                    links.append(((source, key), (reference.target, referred), reason))
    return links


def following_round(links, found, lost):
    """The reasons of the rows that refer to rows of the last round and are not found yet."""
    reasons = {}
    for place, target, reason in links:
        if target in lost and place not in found:
            reasons.setdefault(place, reason)
    return reasons


def suspended_places(rules, overlays):
    """The dict from (ID, key) of each suspended row to the tuple (round, reason).

    rules leads from the IDs of the standing tables to their rules, overlays from IDs to lists
    of tuples (key, row, label).
    """
    found = {}
    number = 1
    lost = first_round(rules, overlays)
    links = links_of(rules, overlays, lost)
    while lost:
        for place in lost:
            found[place] = (number, lost[place])
        lost = following_round(links, found, lost)
        number += 1
    return found
