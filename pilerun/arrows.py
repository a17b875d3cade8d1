"""The arrows of a reader: which there are, what they weigh, their reasons, and ways of them.

In all of this, weights is a dict that gives each arrow its weight, and rooms is how many rooms there are.
"""


def own_arrows(many, goal):
    """The arrows that read the goal's pile from its state to the end, in order."""
    room, pile = goal
    own = []
    for place, sign in enumerate(pile):
        own.append((room, sign, many + place))
        room = many + place
    return own


def arrow_weights(rules, own, rooms):
    """The weight of each arrow that the goal and the rules bring."""
    weights = {arrow: 0 for arrow in own}
    # What one rule brings may let another one bring more, so all are asked until none brings anything.
    while bring_arrows(rules, weights, rooms):
        pass
    return weights


def bring_arrows(rules, weights, rooms):
    """Let each rule bring its arrows once; True where one came or became lighter."""
    changed = False
    for state, sign, to, push in rules:
        reached = read_from(to, push, weights, rooms)
        for room in reached:
            if keep_least(weights, (state, sign, room), reached[room] + 1):
                changed = True
    return changed


def keep_least(table, key, worth):
    """Write the worth under the key if nothing stands there that is as little; True where it was written."""
    if key in table and table[key] <= worth:
        return False
    table[key] = worth
    return True


def read_from(start, text, weights, rooms):
    """For each room to which the text is read from the start, the least weight of such a way."""
    reached = {start: 0}
    for sign in text:
        reached = read_on(reached, sign, weights, rooms)
    return reached


def read_on(reached, sign, weights, rooms):
    """As read_from, by one sign more than what came to the rooms reached so far."""
    further = {}
    for room in reached:
        for other in range(rooms):
            arrow = (room, sign, other)
            if arrow in weights:
                keep_least(further, other, reached[room] + weights[arrow])
    return further


def least_way(start, text, end, weights, rooms):
    """The way of the least weight that reads the text from the start to the end, of several the one
    whose rooms are the least; None where it isn't read."""
    rows = rows_to(end, text, weights, rooms)
    if start not in rows[0]:
        return None
    way = []
    room = start
    for place, sign in enumerate(text):
        other = rows[place][room][1]
        way.append((room, sign, other))
        room = other
    return way


def rows_to(end, text, weights, rooms):
    """A row for each place of the text, and one behind it: for each room from which the text is read
    to the end from that place on, the least weight of such a way and the least room it goes to next."""
    # The rows are made from the end on: only what follows tells which next room is on a least way.
    rows = [{end: (0, end)}]
    for sign in reversed(text):
        rows.append(row_ahead(rows[-1], sign, weights, rooms))
    return rows[::-1]


def row_ahead(row, sign, weights, rooms):
    """The row one sign ahead of the given one, as rows_to tells them."""
    ahead = {}
    for other in row:
        for room in range(rooms):
            arrow = (room, sign, other)
            if arrow in weights:
                keep_least(ahead, room, (weights[arrow] + row[other][0], other))
    return ahead


def arrow_reasons(rules, own, weights, rooms):
    """The reason of each arrow."""
    reasons = {arrow: None for arrow in own}
    for number, (state, sign, to, push) in enumerate(rules):
        reached = read_from(to, push, weights, rooms)
        for room in reached:
            arrow = (state, sign, room)
            # The rules come rising, so the first one that comes to the weight is in the least reason.
            if arrow not in reasons and reached[room] + 1 == weights[arrow]:
                way = least_way(to, push, room, weights, rooms)
                reasons[arrow] = (number, tuple(way))
    return reasons


def way_weight(way, weights):
    """The weight of a way."""
    return sum(weights[arrow] for arrow in way)


def way_steps(way, reasons):
    """The numbers of the rules that go for the arrows of a way, in order."""
    steps = []
    # What is still to be done, the next one last: reasons may stand in reasons deeper than calls should.
    left = way[::-1]
    while left:
        reason = reasons[left.pop()]
        if reason is not None:
            number, arrows = reason
            steps.append(number)
            left.extend(arrows[::-1])
    return steps
