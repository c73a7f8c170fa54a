"""Healing: how a ring comes to where just one machine may step, and what follows."""

from healring.errors import NoNumbers, NotHealed
from healring.orders import chosen
from healring.rings import able, after, check_machines, check_ring


def check_enough(many, machines):
    """Refuse fewer numbers than machines: with so few an order may never heal the ring."""
    if many < machines:
        raise NoNumbers("many is less than there are machines")


def healed(ring, many):
    """Tell whether just one machine may step."""
    return len(able(ring, many)) == 1


def healing(ring, many, numbers):
    """Tell the list of the machines that step, drawn by numbers, up to the first healed ring."""
    check_ring(ring, many)
    check_enough(many, len(ring))
    order = []
    while not healed(ring, many):
        machine = chosen(able(ring, many), numbers, len(order))
        order.append(machine)
        ring = after(ring, many, machine)
    return order


def most(machines):
    """Tell how many steps can at most stand ahead of the first healed ring."""
    check_machines(machines)
    return 3 * machines * (machines - 1) // 2


def turns(ring, many):
    """Tell the list of the next machines that step from a healed ring, each machine once."""
    # From a healed ring on the machines step in turn, so no step need be tried.
    if not healed(ring, many):
        raise NotHealed("more than one machine may step")
    first = able(ring, many)[0]
    return [(first + further) % len(ring) for further in range(len(ring))]
