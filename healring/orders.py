"""Orders: drawing one by numbers, and what is told of one that is gone."""

from healring.rings import able, after, check_machine, check_machines, check_ring


def chosen(machines, numbers, step):
    """Tell which of the machines that may step does so, at a step (from 0) of a drawn order."""
    if len(numbers) == 0:
        return machines[0]
    number = numbers[step % len(numbers)]
    return machines[number % len(machines)]


def drawn(ring, many, numbers, steps):
    """Tell the list of the machines that step, drawn by numbers, for so many steps."""
    check_ring(ring, many)
    order = []
    for step in range(steps):
        machine = chosen(able(ring, many), numbers, step)
        order.append(machine)
        ring = after(ring, many, machine)
    return order


def counted(order, machines):
    """Tell how often each of so many machines steps in an order."""
    check_machines(machines)
    counts = [0] * machines
    for machine in order:
        check_machine(machine, machines)
        counts[machine] += 1
    return counts


def traced(ring, many, order):
    """Tell where the number of each machine came from when an order was gone.

    Below the number of machines this is the machine whose beginning it was;
    from there on it counts the steps of machine 0.
    """
    check_ring(ring, many)
    sources = list(range(len(ring)))
    fresh = len(ring)
    for machine in order:
        ring = after(ring, many, machine)
        if machine == 0:
            sources[0] = fresh
            fresh += 1
        else:
            sources[machine] = sources[machine - 1]
    return sources
