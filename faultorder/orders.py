"""Orders: in which order parts fail so that a plant stops, and whether a further failure can save it."""

from faultorder.states import Steps, is_all_of, walked


def orders(plant):
    """The list of all orders, by length, then ascending."""
    steps = Steps(plant)
    found = []
    line = [((), steps.start())]
    while line:
        next_line = []
        for parts, state in line:
            for event, behind in steps.failures(state).items():
                if steps.has_stopped(behind):
                    found.append(parts + (event[1],))
                else:
                    next_line.append((parts + (event[1],), behind))
        line = next_line
    return found


def left_over(parts):
    """All tuples that arise by leaving out parts of a tuple; the last one is the whole tuple."""
    found = [()]
    for part in parts:
        found = found + [shorter + (part,) for shorter in found]
    return found


def least_orders(plant):
    """The list of the least orders, by length, then ascending."""
    every_one = orders(plant)
    known = {order: True for order in every_one}
    # Failures alone never end a stop: so a tuple that stops the plant has a beginning that is an order, and
    # this one arises by leaving out parts, too.
    return [order for order in every_one if not any([parts in known for parts in left_over(order)[:-1]])]


def how_often(steps, states):
    """Whether the plant has stopped in all of some states, in some of them, or in none."""
    told = [steps.has_stopped(state) for state in states]
    if all(told):
        return "always"
    return "sometimes" if any(told) else "never"


def stops(plant):
    """A dict from all sets of parts that are reached to "always", "sometimes" or "never"."""
    steps = Steps(plant)
    found = {}
    # Each set of so many parts, with all states that its sequences lead to.
    line = {(): {steps.start(): True}}
    while line:
        next_line = {}
        for parts, states in line.items():
            found[parts] = how_often(steps, list(states))
            for state in states:
                for event, behind in steps.failures(state).items():
                    more = tuple(sorted(parts + (event[1],)))
                    next_line.setdefault(more, {})[behind] = True
        line = next_line
    return {parts: found[parts] for parts in sorted(found)}


def onward_pairs(steps, pair):
    """What follows from a pair of states: a dict from (word, part) to pairs.

    The second state is None as long as both tuples are the same; "more" is the one part more of the second.
    """
    one, other = pair
    first = steps.failures(one)
    if other is None:
        found = {("both", event[1]): (first[event], None) for event in first}
        return {**found, **{("more", event[1]): (one, first[event]) for event in first}}
    second = steps.failures(other)
    return {("both", event[1]): (first[event], second[event]) for event in first if event in second}


def compared(steps):
    """A dict from the pairs of states of point 13 to the least rows, as onward_pairs writes them, to them."""
    rows = walked((steps.start(), None), lambda pair: onward_pairs(steps, pair), None)
    return {pair: rows[pair] for pair in rows if pair[1] is not None}


def first_saved(steps, rows):
    """The first one of some pairs of states by which a failure has saved the plant, or None."""
    for pair in rows:
        if steps.has_stopped(pair[0]) and not steps.has_stopped(pair[1]):
            return pair
    return None


def steady(plant):
    """("steady", relation), or ("saved", one, other) with two tuples of parts, as short as can be."""
    steps = Steps(plant)
    rows = compared(steps)
    saved = first_saved(steps, rows)
    if saved is None:
        return "steady", tuple(sorted(rows))
    one = tuple([part for word, part in rows[saved] if word == "both"])
    return "saved", one, tuple([part for _, part in rows[saved]])


def is_steady(plant, value):
    """Whether any value is a relation for it that the plant is steady."""
    steps = Steps(plant)
    rows = compared(steps)
    return first_saved(steps, rows) is None and is_all_of(value, rows)
