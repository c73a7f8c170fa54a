"""Rings: which machines may step, and what comes of their steps."""

from healring.errors import NoMachine, NoNumbers, NoRing, NotNow

FEWEST_MACHINES = 2
MOST_MACHINES = 12
FEWEST_NUMBERS = 2
MOST_NUMBERS = 100


# The messages of refusals leave out what was handed in: a whole number can be
# too long for Python to write it out, which would raise another error instead.


def check_many(many):
    """Refuse a count of numbers that is out of bounds."""
    if many < FEWEST_NUMBERS or many > MOST_NUMBERS:
        raise NoNumbers("many is not from 2 to 100")


def check_machines(machines):
    """Refuse a count of machines that is out of bounds."""
    if machines < FEWEST_MACHINES or machines > MOST_MACHINES:
        raise NoRing("a ring has from 2 to 12 machines")


def check_ring(ring, many):
    """Refuse a count of numbers that is out of bounds, else what is no ring of such numbers."""
    check_many(many)
    check_machines(len(ring))
    for number in ring:
        if number < 0 or number >= many:
            raise NoRing("a number of the ring is below 0 or not below many")


def check_machine(machine, machines):
    """Refuse a machine that is none of so many."""
    if machine < 0 or machine >= machines:
        raise NoMachine("the ring has no such machine")


def may_step(ring, machine):
    """Tell whether a machine of a good ring may step."""
    # Before machine 0 stands the last one, and ring[-1] is that one's number.
    same = ring[machine] == ring[machine - 1]
    return same if machine == 0 else not same


def taken(ring, many, machine):
    """Tell the number that a machine takes when it steps."""
    if machine > 0:
        return ring[machine - 1]
    greatest = many - 1
    return 0 if ring[0] == greatest else ring[0] + 1


def after(ring, many, machine):
    """Tell the ring after one step, refusing a step that can't be; the ring was checked before."""
    check_machine(machine, len(ring))
    if not may_step(ring, machine):
        raise NotNow("the machine may not step now")
    return (*ring[:machine], taken(ring, many, machine), *ring[machine + 1:])


def able(ring, many):
    """Tell the list of the machines that may step, rising."""
    check_ring(ring, many)
    return [machine for machine in range(len(ring)) if may_step(ring, machine)]


def stepped(ring, many, machine):
    """Tell the ring when a machine has stepped."""
    check_ring(ring, many)
    return after(ring, many, machine)


def gone(ring, many, order):
    """Tell the list of the rings from the first one on, when machines step in an order."""
    check_ring(ring, many)
    rings = [ring]
    for machine in order:
        rings.append(after(rings[-1], many, machine))
    return rings
