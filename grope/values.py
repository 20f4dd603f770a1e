"""The sets that come of a set of worlds, and the least price of an errand (points 24 and 25)."""

from grope.errors import TooMany
from grope.known import after, can_do, parts
from grope.sets import within

MOST_SETS = 200


def coming(errand, some, most):
    return [sorted(fresh) for fresh in spread(errand, some, most)[0]]


def least(errand, some, most):
    moves = spread(errand, some, most)[1]
    # By the sets that can be brought to the goal so far; nothing can be before the first round, which takes no step.
    prices = {}
    for steps in range(most + 1):
        prices = next_prices(errand, moves, prices)
    return prices.get(some)


def spread(errand, some, most):
    # Told are the sets that come first after each number of steps, and by each set that comes its moves.
    moves = {}
    levels = [[some] if within(some, errand.keep()) else []]
    add_sets(moves, levels[0])
    for steps in range(most):
        fresh = []
        for one in levels[-1]:
            fitting = moves_of(errand, one)
            moves[one] = fitting
            for move in fitting:
                fresh.extend(add_sets(moves, move[1]))
        levels.append(fresh)
    return (levels, moves)


def add_sets(moves, sets):
    added = []
    for one in sets:
        if one not in moves:
            # What comes after the last step keeps no moves, as no step is left for it.
            moves[one] = []
            added.append(one)
    # Asked at once, as what comes may be far too much to wait for.
    if len(moves) > MOST_SETS:
        raise TooMany("there are too many sets")
    return added


def moves_of(errand, some):
    # A move is a step that fits, told as its price and the list of the sets that may come of it.
    if within(some, errand.goal()):
        return []
    return deed_moves(errand, some) + look_moves(errand.chart(), some)


def deed_moves(errand, some):
    chart = errand.chart()
    moves = []
    for name in chart.deed_names():
        if can_do(chart, name, some):
            made = after(chart, name, some)
            if within(made, errand.keep()):
                moves.append((chart.price_of(name), [made]))
    return moves


def look_moves(chart, some):
    moves = []
    for name in chart.look_names():
        if can_do(chart, name, some):
            moves.append((chart.price_of(name), [part[1] for part in parts(chart, name, some)]))
    return moves


def next_prices(errand, moves, prices):
    # The least prices with one step more than those told.
    found = {}
    for one in moves:
        price = 0 if within(one, errand.goal()) else cheapest(moves[one], prices)
        if price is not None:
            found[one] = price
    return found


def cheapest(moves, prices):
    sums = [price + dearest(sets, prices) for price, sets in moves if all([one in prices for one in sets])]
    return min(sums, default=None)


def dearest(sets, prices):
    return max([prices[one] for one in sets])
