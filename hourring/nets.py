"""Nets of places and arcs: their flows, and what prices say of them."""

from hourring.towns import is_whole


def is_circling(many, arcs, flows):
    """Whether flows go round in the net of so many places and these arcs."""
    if not isinstance(flows, list) or len(flows) != len(arcs):
        return False
    surplus = [0] * many
    for (start, end, room, _), flow in zip(arcs, flows):
        if not is_whole(flow, 0, room):
            return False
        surplus[start] -= flow
        surplus[end] += flow
    return not any(surplus)


def worth(arcs, flows):
    """The sum of each flow times the worth of its arc."""
    return sum([flow * arc[3] for arc, flow in zip(arcs, flows)])


def bound_by(arcs, prices):
    """What no flows are worth more than, by these prices of the places."""
    total = 0
    for start, end, room, gain in arcs:
        total += max(0, room * (gain - prices[start] + prices[end]))
    return total
