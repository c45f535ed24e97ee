"""Desks that stop one another: a stopped desk's work is done, and the line into which it puts lacks room."""

from mergeline.plants import finds_room, takers_of


def stopped(plant, places, loads, time):
    """The stopped desks, in the plant's order."""
    return [desk[0] for desk in plant.desks if is_stopped(plant, places, loads[desk[0]], time, desk[1])]


def chain_of(plant, places, loads, time, desk):
    """How the chain of desks from a stopped one on ends, and its desks."""
    halted = stopped(plant, places, loads, time)
    met = [desk]
    while met[-1] in halted:
        taker = taker_behind(plant, met[-1])
        if taker == "":
            return ("none", met)
        if taker in met:
            return ("ring", met[met.index(taker):])
        met.append(taker)
    return ("waits", met)


def is_stopped(plant, places, load, time, to):
    """Whether a desk with this load, that puts into this line or out, is stopped."""
    return load is not None and time >= load[1] and not finds_room(plant, places, to, load[0])


def taker_behind(plant, name):
    """The desk that takes from the line into which the desk of this name puts, the empty text where none does."""
    lines = [desk[1] for desk in plant.desks if desk[0] == name]
    takers = takers_of(plant, lines[0])
    return takers[0][0] if takers else ""
