"""Releases: who may let rows go down, and the offers of such rows."""

from aboveless.errors import UnknownOffer
from aboveless.values import is_name


def may_release(world, user, mark):
    if not is_name(user) or not is_name(mark):
        return False
    for kind, name, label in world.entries("right"):
        right = world.entry(kind, name, label)
        # whoever makes a right must have the mark
        if (right.user, right.mark) == (user, mark) and mark in label:
            return True
    return False


class Offers:
    """The offers of all labels, numbered from 0 at each of them."""

    def __init__(self):
        self._offers = {}

    def add_offer(self, label, offer):
        """One more offer of a label; returns its number."""
        offers = self._offers.setdefault(str(label), [])
        offers.append(offer)
        return len(offers) - 1

    def offer_at(self, label, number):
        offers = self._offers.get(str(label), [])
        if number >= len(offers) or offers[number] is None:
            raise UnknownOffer(number)
        return offers[number]

    def take_offer(self, label, number):
        """The offer is no longer there; others keep their numbers."""
        offers = self._offers[str(label)]
        offers[number] = None
