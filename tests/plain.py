"""Plain searches that the tests hold the program against.

Nothing here takes anything from the program: steps, arrows, weights and ways are worked out straight from
the words of the document, without regard to time.
"""

import itertools


def steps_from(rules, spot):
    """All spots one step behind the spot, with the number of the rule."""
    state, pile = spot
    found = []
    for number, (at, sign, to, push) in enumerate(rules):
        if at == state and pile and pile[0] == sign:
            found.append((number, (to, push + pile[1:])))
    return found


def fewest_steps(rules, spot, goal, most):
    """How few steps lead from the spot to the goal; None where more than most are needed, or none lead there."""
    here, seen = {spot}, {spot}
    for steps in range(most + 1):
        if goal in here:
            return steps
        further = set()
        for one in here:
            for _, behind in steps_from(rules, one):
                # A step takes one sign at most, so a pile that is too high can't come down in time.
                if behind not in seen and len(behind[1]) <= len(goal[1]) + most - steps - 1:
                    further.add(behind)
        seen |= further
        here = further
    return None


def walk(rules, spot, numbers):
    """The spot behind a row of steps; None where one of them doesn't go."""
    for number in numbers:
        spot = dict(steps_from(rules, spot)).get(number)
        if spot is None:
            return None
    return spot


def own_arrows(many, goal):
    """The goal's own arrows, by the words of point 6."""
    rooms = [goal[0]] + [many + place for place in range(len(goal[1]))]
    return [(rooms[place], sign, rooms[place + 1]) for place, sign in enumerate(goal[1])]


def all_ways(arrows, rooms, start, text):
    """All ways that read the text from the start, as tuples of arrows."""
    ways = []
    for others in itertools.product(range(rooms), repeat=len(text)):
        row = (start,) + others
        way = tuple((row[place], sign, row[place + 1]) for place, sign in enumerate(text))
        if all(arrow in arrows for arrow in way):
            ways.append(way)
    return ways


def way_end(start, way):
    """The room where a way from the start ends."""
    return way[-1][2] if way else start


def all_weights(many, rules, goal):
    """The weight of each arrow, by the words of point 8: taken down for as long as one comes lower."""
    rooms = many + len(goal[1])
    weights = {arrow: 0 for arrow in own_arrows(many, goal)}
    while True:
        newer = dict(weights)
        for state, sign, to, push in rules:
            for way in all_ways(weights, rooms, to, push):
                arrow = (state, sign, way_end(to, way))
                weight = 1 + sum(weights[one] for one in way)
                newer[arrow] = min(weight, newer.get(arrow, weight))
        if newer == weights:
            return weights
        weights = newer


def least_reason(many, rules, goal, weights, arrow):
    """The reason of an arrow, by the words of point 10: the least of all pairs that come to its weight."""
    if arrow in own_arrows(many, goal):
        return None
    pairs = []
    for number, (state, sign, to, push) in enumerate(rules):
        for way in all_ways(weights, many + len(goal[1]), to, push):
            if (state, sign, way_end(to, way)) == arrow and 1 + sum(weights[one] for one in way) == weights[arrow]:
                pairs.append((number, way))
    return min(pairs)


def least_way(many, goal, weights, spot):
    """The way of a spot, by the words of point 12; None where its pile isn't read."""
    state, pile = spot
    rooms = many + len(goal[1])
    end = rooms - 1 if goal[1] else goal[0]
    ways = []
    for way in all_ways(weights, rooms, state, pile):
        if way_end(state, way) == end:
            row = [state] + [arrow[2] for arrow in way]
            ways.append((sum(weights[arrow] for arrow in way), row, list(way)))
    return min(ways)[2] if ways else None


def steps_of(arrow, reasons):
    """The steps of an arrow, by the words of point 12: its rule, then those of its reason's arrows."""
    if reasons[arrow] is None:
        return []
    number, arrows = reasons[arrow]
    steps = [number]
    for one in arrows:
        steps += steps_of(one, reasons)
    return steps


def all_piles(signs, most):
    """All piles of at most so many of the signs."""
    piles = []
    for length in range(most + 1):
        piles += ["".join(row) for row in itertools.product(signs, repeat=length)]
    return piles


def all_spots(many, signs, most):
    """All spots with such piles."""
    return [(state, pile) for state in range(many) for pile in all_piles(signs, most)]
