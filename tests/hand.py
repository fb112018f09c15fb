"""Searches by hand: runs of all expressions up to some number of steps, by their texts."""

import itertools

from heirsback.expressions import Expression
from heirsback.runs import run


def texts(world, starts, most):
    """All expressions with up to this many steps over the start classes, by their number of steps. One label each class."""
    library = world.library
    found = [[f"{chr(97 + at)}:{name}" for at, name in enumerate(starts)]]
    for many in range(1, most + 1):
        told = []
        for sign in library:
            if library.arity(sign) == 0 and many == 1:
                told += [f"{name}.{sign}" for name in starts]
            if library.arity(sign) == 1:
                told += [f"{sign}({text})" for text in found[many - 1]]
            if library.arity(sign) == 2:
                for left in range(many):
                    pairs = itertools.product(found[left], found[many - 1 - left])
                    told += [f"({one} {sign} {other})" for one, other in pairs]
        found.append(told)
    return found


def tried(world, starts, most):
    """The price of each state, and of each virtue that a last step lacks, among these expressions."""
    prices, lacking = {}, {}
    for many, told in enumerate(texts(world, starts, most)):
        for text in told:
            found = run(world, Expression.read(text))
            steps = list(found.journal())
            if not all(steps[:-1]):
                continue
            if found:
                prices.setdefault(found.end, many)
            if steps:
                lacks = ("runs",) if not found else steps[-1].outcome[1]
                for virtue in lacks:
                    lacking.setdefault(virtue, many)
    return prices, lacking


def grown(world, starts):
    """The price of each state and virtue: states are combined, in rounds, until nothing gets cheaper."""
    library = world.library
    best = {}
    lacking = {}
    number = 0
    for at, name in enumerate(starts):
        told = Expression.leaf(chr(97 + at), name)
        best[run(world, told).end] = (0, told)

    def take(told, price):
        found = run(world, told)
        steps = list(found.journal())
        for virtue in ("runs",) if not found else steps[-1].outcome[1]:
            lacking[virtue] = min(lacking.get(virtue, price), price)
        if found and (found.end not in best or price < best[found.end][0]):
            best[found.end] = (price, told)
            return True
        return False

    changed = True
    while changed:
        number += 1
        changed = False
        for sign in library:
            arity = library.arity(sign)
            rows = [(1, Expression.asked(name, sign)) for name in starts] if arity == 0 else []
            for operands in itertools.product(list(best.values()), repeat=arity) if arity else ():
                parts = [str(told) for _, told in operands]
                text = f"{sign}({parts[0]})" if arity == 1 else f"({parts[0]} {sign} {parts[1]})"
                rows.append((1 + sum(price for price, _ in operands), Expression.read(text)))
            for price, told in rows:
                changed = take(told, price) or changed
    return {state: price for state, (price, _) in best.items()}, lacking
