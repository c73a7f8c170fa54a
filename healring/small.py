"""Small rings: where there are few enough of them, all are tried."""

from healring.errors import TooGreat
from healring.healing import check_enough
from healring.rings import able, after, check_machines, check_many

MOST_RINGS = 300


def check_few(machines, many):
    """Refuse a size of which there are too many rings to try them all."""
    rings = 1
    for _ in range(machines):
        rings = rings * many
    if rings > MOST_RINGS:
        raise TooGreat("there are more than 300 rings")


def all_rings(machines, many):
    """Tell every ring of so many machines and numbers, the least first."""
    rings = [()]
    for _ in range(machines):
        rings = [(*ring, number) for ring in rings for number in range(many)]
    return rings


def ways_from(ring, many):
    """Tell a pair for each machine that may step, rising: the machine, and the ring behind its step."""
    return [(machine, after(ring, many, machine)) for machine in able(ring, many)]


def all_ways(machines, many):
    """Tell of every ring, the least first, which ways lead on from it."""
    return {ring: ways_from(ring, many) for ring in all_rings(machines, many)}


def all_in(ways, rings):
    """Tell whether each of the ways leads to one of the rings."""
    return all([behind in rings for _, behind in ways])


def longest_steps(ways):
    """Tell of every ring how many steps an order can last ahead of the first healed ring.

    The rings from which some order never heals are left out.
    """
    steps = {ring: 0 for ring in ways if len(ways[ring]) == 1}
    while True:
        ready = [ring for ring in ways if ring not in steps and all_in(ways[ring], steps)]
        if not ready:
            return steps
        for ring in ready:
            steps[ring] = 1 + max([steps[behind] for _, behind in ways[ring]])


def longest_order(ring, ways, steps):
    """Tell the least of the orders that last longest from a ring."""
    order = []
    while steps[ring] > 0:
        longest = [way for way in ways[ring] if steps[way[1]] == steps[ring] - 1]
        machine, ring = longest[0]
        order.append(machine)
    return order


def way_around(ring, ways, steps):
    """Tell a ring that comes again when only rings that need not heal follow, and the order between."""
    # From each ring that has no steps a way leads to another such one, or it
    # would have steps. There are finitely many of them, so one comes again.
    order = []
    places = {}
    while ring not in places:
        places[ring] = len(order)
        endless = [way for way in ways[ring] if way[1] not in steps]
        machine, ring = endless[0]
        order.append(machine)
    return (ring, order[places[ring]:])


def worst(machines, many):
    """Tell a ring and an order from it that lasts longest ahead of the first healed ring."""
    check_many(many)
    check_machines(machines)
    check_enough(many, machines)
    check_few(machines, many)
    ways = all_ways(machines, many)
    steps = longest_steps(ways)
    # Of several max takes the first, and the rings stand with the least first.
    ring = max(ways, key=lambda start: steps[start])
    return (ring, longest_order(ring, ways, steps))


def never(machines, many):
    """Tell a ring and an order that leads back to it with no ring healed; None where there is none."""
    check_many(many)
    check_machines(machines)
    check_few(machines, many)
    ways = all_ways(machines, many)
    steps = longest_steps(ways)
    for ring in ways:
        if ring not in steps:
            return way_around(ring, ways, steps)
    return None
