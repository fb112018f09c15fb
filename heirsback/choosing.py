"""Choosing makers (point 27)."""

from heirsback.atlas import serves
from heirsback.errors import BadMaker, TooMany
from heirsback.library import Library
from heirsback.spelling import MAKERS
from heirsback.virtues import check_virtues

MOST_OPERATIONS = 3


class Choice:
    """A library with chosen makers, and their price. Nothing changes a choice once it is made."""

    def __init__(self, library, price):
        self.library = library
        self.price = price


def fitting(library, sign, family, virtues):
    """The makers of the operation with which the library serves the family."""
    chosen = check_virtues(virtues)
    makers = _allowed(library, sign)
    return [maker for maker in makers if serves(library.with_maker(sign, maker), family, chosen)]


def cheapest(library, prices, family, virtues):
    """A cheapest choice of makers with which the family is served; None if there is none."""
    chosen = check_virtues(virtues)
    for key in sorted(list(prices)):
        if not any([key in makers for makers in MAKERS]):
            raise BadMaker(key)
    if len(library) > MOST_OPERATIONS:
        raise TooMany("operations")
    choosing = Choosing(library, family, chosen)
    choices = [(0, ())]
    for sign in library:
        makers = [maker for maker in _allowed(library, sign) if maker in prices and choosing.fits({sign: maker})]
        choices = [(price + prices[maker], (*before, maker)) for price, before in choices for maker in makers]
    for price, makers in sorted(choices):
        if choosing.is_served(makers):
            made = library
            for sign, maker in zip(library.signs(), makers):
                made = made.with_maker(sign, maker)
            return Choice(made, price)
    return None


def _allowed(library, sign):
    return Library.makers(library.arity(sign), hook=library.root_hook is not None)


class Choosing:
    """What is known of single operations and of pairs: each single one and each pair decide (fact 32)."""

    def __init__(self, library, family, chosen):
        self._library = library
        self._family = family
        self._chosen = chosen
        self._known = {}

    def fits(self, makers):
        """Whether the family is served by a library with these operations alone; makers is a dict from their signs."""
        key = tuple(list(makers.items()))
        if key not in self._known:
            library = self._library
            rows = [(sign, library.changed(sign), makers[sign]) for sign in makers]
            small = Library(library.name, library.root_parameters, library.kept, library.root_hook, rows)
            self._known[key] = bool(serves(small, self._family, self._chosen))
        return self._known[key]

    def is_served(self, makers):
        """Whether each pair of operations serves the family with these makers, of which each single one does."""
        rows = list(zip(self._library.signs(), makers))
        for at, (sign, maker) in enumerate(rows):
            for other, its_maker in rows[at + 1:]:
                if self._may_clash(maker, its_maker) and not self.fits({sign: maker, other: its_maker}):
                    return False
        return True

    def _may_clash(self, maker, other):
        """Whether one of the two makes values with missing fields.

        Nothing else is handed on that the other one could lack a virtue for: stale fields matter to `fresh`
        alone, and where this is chosen, no single operation makes any.
        """
        bare = ("bare own", "hook") if self._library.root_hook == "bare" else ("bare own",)
        return maker in bare or other in bare
