"""What several tests use: plants and days by chance, also such within paces, days and books written short, the lists and
dicts within a value, and a floor's time done.
"""

from mergeline.errors import BadPlant
from mergeline.plants import read_plant

FIELDS = ("kinds", "gates", "lines", "desks", "times", "hours", "paces")


def fields_of(plant):
    """The fields of a plant with their orders: dicts as lists of pairs."""
    told = {}
    for name in FIELDS:
        value = getattr(plant, name)
        told[name] = list(value.items()) if isinstance(value, dict) else list(value)
    return told


def parts_of(value):
    """All lists and dicts within a value, each as often as it stands there."""
    inner = list(value.values()) if isinstance(value, dict) else value
    found = [value] if isinstance(value, (list, dict)) else []
    if isinstance(inner, (list, tuple)):
        for one in inner:
            found.extend(parts_of(one))
    return found


def plant_parts(plant):
    return [part for name in FIELDS for part in parts_of(getattr(plant, name))]


def spoil_parts(value):
    """Changes all lists and dicts within a value."""
    for part in parts_of(value):
        if isinstance(part, dict):
            part["spoilt"] = "spoilt"
        else:
            part.append("spoilt")
            part.reverse()


def day_of(*goods):
    """The day of goods that are written as in a day's text."""
    day = []
    for good in goods:
        words = good.split()
        day.append((int(words[0]), words[1], words[2], "" if words[3] == "-" else words[3]))
    return day


def book_of(*rows):
    """The book of entries that are written as in a book's text."""
    book = []
    for row in rows:
        words = row.split()
        if words[1] in ("come", "spoil"):
            book.append((words[1], int(words[0]), int(words[2])))
        else:
            book.append((words[1], int(words[0]), words[2], tuple(int(word) for word in words[3:])))
    return book


def done_at(floor, t):
    """The entries of all that is done at t."""
    entries = floor.come(t) + floor.spoil(t)
    entry = floor.act(t)
    while entry is not None:
        entries.append(entry)
        entry = floor.act(t)
    return entries


def some_rule(chance, many, most, far, word):
    """The words of a rule for so many places, with no load greater than most; one of this word, where it can be."""
    rules = [
        "turns " + " ".join(str(chance.randint(1, 3)) for place in range(many)),
        "eldest",
        "rank " + chance.choice(["-", "0", str(2 * far), str(5 * far)]),
        f"many {chance.randint(1, most)}",
        f"gather {chance.randint(1, most)} {chance.randint(0, 6) * far}",
    ]
    if 2 <= many <= most:
        rules += ["meet"] * 2
    return chance.choice([rule for rule in rules if rule.split()[0] == word] or rules)


def some_rows(chance, far=1, word=""):
    """The rows of a plant, sort by sort; with a greater far, its times lie so much farther apart.

    A word tells the rule of all desks that can have it.
    """
    kinds = ["k", "l", "m"][:chance.randint(1, 3)]
    gates = ["a", "b", "c"][:chance.randint(1, 3)]
    lines = {name: chance.randint(1, 4) for name in ["p", "q", "r", "s"][:chance.randint(0, 4)]}
    rows = [f"kind {name} {chance.choice(['-', chance.randint(1, 15) * far])}" for name in kinds]
    rows += [f"gate {name}" for name in gates] + [f"line {name} {room}" for name, room in lines.items()]
    places = gates + list(lines)
    chance.shuffle(places)
    desks = []
    while places:
        taken = [places.pop() for count in range(min(len(places), chance.randint(1, 3)))]
        to = chance.choice(["-"] + list(lines) * 2)
        rule = some_rule(chance, len(taken), lines.get(to, 4), far, word)
        desks.append("d" * (len(desks) + 1))
        rows.append(f"desk {desks[-1]} to {to} by {rule} from {' '.join(taken)}")
    for desk in desks:
        rows += [f"time {desk} {kind} {chance.randint(1, 5) * far}" for kind in kinds if chance.random() < 0.5]
        if chance.random() < 0.4:
            starts = [chance.randint(0, 30) * far for count in range(chance.randint(1, 3))]
            rows += [f"open {desk} {start} {start + chance.randint(1, 12) * far}" for start in starts]
    return rows + [f"pace {gate} {chance.choice(kinds)} {chance.randint(1, 9)} {chance.randint(1, 9)}"
                   for gate in gates if chance.random() < 0.3]


def mixed(chance, rows):
    """The rows in another order, each behind those that tell its names."""
    left = list(rows)
    chance.shuffle(left)
    told = []
    while left:
        readable = [row for row in left if is_read("\n".join(told + [row]))]
        told.append(readable[0])
        left.remove(readable[0])
    return told


def is_read(text):
    try:
        read_plant(text)
    except BadPlant:
        return False
    return True


def some_day(chance, plant, last=25):
    """A day for the plant, with times from 0 to last."""
    times = sorted(chance.randint(0, last) for count in range(chance.randint(0, 25)))
    kinds = list(plant.kinds)
    return [(time, chance.choice(plant.gates), chance.choice(kinds), chance.choice(["", "x", "y"])) for time in times]


def paced_rows(chance, rule, many, most):
    """The rows of a plant with a desk `d` of such a rule over so many gates with paces, beside a desk of other gates.

    Works and bursts are at most most, and gaps such that the load is often not full; `turns` gets shares.
    """
    gates = ["a", "b", "c", "e", "f", "g"][:many]
    chance.shuffle(gates)
    kinds = ["k", "l", "m", "n", "o", "p"][:chance.randint(1, many)]
    words = rule if rule != "turns" else "turns " + " ".join(str(chance.randint(1, 4)) for gate in gates)
    rows = [f"kind {kind} -" for kind in kinds] + ["kind z 3"] + [f"gate {gate}" for gate in sorted(gates) + ["y", "z"]]
    rows += ["line q 1", "desk x to q by many 1 from y z", "desk w to - by eldest from q", "time w z 4"]
    rows.insert(chance.randint(len(rows) - 3, len(rows)), f"desk d to - by {words} from {' '.join(gates)}")
    works = {kind: chance.randint(1, min(most, 80 // many)) for kind in kinds}
    rows += [f"time d {kind} {work}" for kind, work in works.items() if work > 1]
    for gate in gates:
        kind = chance.choice(kinds)
        gap = chance.randint(min(60, works[kind] + 1), min(60, 2 * many * works[kind] + 3))
        rows.append(f"pace {gate} {kind} {chance.randint(1, most)} {gap}")
    return rows + ["pace y z 2 7"]


def may_come(times, time, burst, gap):
    """Whether, behind goods that came at these times, one more may come at a time, by each window that ends there."""
    return all(len([one for one in times if one >= start]) + 1 <= burst + (time - start) // gap
               for start in set(times) | {time})


def paced_times(chance, burst, gap, last):
    """Times to last at which goods come within a pace: as fast as may be, or as it happens."""
    first = chance.choice([0, 0, 1, 2, chance.randint(0, gap)])
    if chance.random() < 0.6:
        return [first] * burst + list(range(first + gap, last + 1, gap))
    times = []
    often = chance.choice([0.1, 0.4, 0.9])
    for time in range(first, last + 1):
        for count in range(chance.choice([1, 2, burst]) if chance.random() < often else 0):
            if may_come(times, time, burst, gap):
                times.append(time)
    return times


def paced_day(chance, plant, last):
    """A day within the paces, with goods at gates without a pace too."""
    day = []
    for gate in plant.gates:
        kind, burst, gap = plant.paces.get(gate, ("", 0, 0))
        times = paced_times(chance, burst, gap, last) if kind else [chance.randint(0, last) for count in range(4)]
        day += [(time, gate, kind or chance.choice(list(plant.kinds)), "") for time in times if time <= last]
    chance.shuffle(day)
    return sorted(day, key=lambda good: good[0])
