"""Paces: whether the goods of a day come to their gates no faster than the plant tells."""


def pace_fault(plant, day):
    """The number of the first good that breaks its gate's pace, None where there is none."""
    frees = {}
    for number, good in enumerate(day):
        if good[1] in plant.paces:
            pace = plant.paces[good[1]]
            # Were the goods let in one by one, a gap apart, the one at hand would be let in at this time: the greatest,
            # over all windows that end with it, of the window's begin and a gap for each good in it ahead of this one.
            # So no window has more than burst + (e - s) // gap goods where it is no more than burst - 1 gaps off.
            let_in = max(good[0], frees.get(good[1], good[0]))
            if good[2] != pace[0] or let_in - good[0] > (pace[1] - 1) * pace[2]:
                return number
            frees[good[1]] = let_in + pace[2]
    return None
