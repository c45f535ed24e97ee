"""What several tests use: plants and days by chance, days and books written short, the lists and dicts within a value,
and a floor's time done.
"""

from mergeline.errors import BadPlant
from mergeline.plants import read_plant

FIELDS = ("kinds", "gates", "lines", "desks", "times", "hours", "paces")


def fields_of(plant):
    """The fields of a plant with their orders: dicts as lists of pairs."""
    told = {}
    for name in FIELDS:
        value = getattr(plant, name)
        told[name] = list(value.items()) if isinstance(value, dict) else list(value)
    return told


def parts_of(value):
    """All lists and dicts within a value, each as often as it stands there."""
    inner = list(value.values()) if isinstance(value, dict) else value
    found = [value] if isinstance(value, (list, dict)) else []
    if isinstance(inner, (list, tuple)):
        for one in inner:
            found.extend(parts_of(one))
    return found


def plant_parts(plant):
    return [part for name in FIELDS for part in parts_of(getattr(plant, name))]


def spoil_parts(value):
    """Changes all lists and dicts within a value."""
    for part in parts_of(value):
        if isinstance(part, dict):
            part["spoilt"] = "spoilt"
        else:
            part.append("spoilt")
            part.reverse()


def day_of(*goods):
    """The day of goods that are written as in a day's text."""
    day = []
    for good in goods:
        words = good.split()
        day.append((int(words[0]), words[1], words[2], "" if words[3] == "-" else words[3]))
    return day


def book_of(*rows):
    """The book of entries that are written as in a book's text."""
    book = []
    for row in rows:
        words = row.split()
        if words[1] in ("come", "spoil"):
            book.append((words[1], int(words[0]), int(words[2])))
        else:
            book.append((words[1], int(words[0]), words[2], tuple(int(word) for word in words[3:])))
    return book


def done_at(floor, t):
    """The entries of all that is done at t."""
    entries = floor.come(t) + floor.spoil(t)
    entry = floor.act(t)
    while entry is not None:
        entries.append(entry)
        entry = floor.act(t)
    return entries


def some_rule(chance, many, most, far, word):
    """The words of a rule for so many places, with no load greater than most; one of this word, where it can be."""
    rules = [
        "turns " + " ".join(str(chance.randint(1, 3)) for place in range(many)),
        "eldest",
        "rank " + chance.choice(["-", "0", str(2 * far), str(5 * far)]),
        f"many {chance.randint(1, most)}",
        f"gather {chance.randint(1, most)} {chance.randint(0, 6) * far}",
    ]
    if 2 <= many <= most:
        rules += ["meet"] * 2
    return chance.choice([rule for rule in rules if rule.split()[0] == word] or rules)


def some_rows(chance, far=1, word=""):
    """The rows of a plant, sort by sort; with a greater far, its times lie so much farther apart.

    A word tells the rule of all desks that can have it.
    """
    kinds = ["k", "l", "m"][:chance.randint(1, 3)]
    gates = ["a", "b", "c"][:chance.randint(1, 3)]
    lines = {name: chance.randint(1, 4) for name in ["p", "q", "r", "s"][:chance.randint(0, 4)]}
    rows = [f"kind {name} {chance.choice(['-', chance.randint(1, 15) * far])}" for name in kinds]
    rows += [f"gate {name}" for name in gates] + [f"line {name} {room}" for name, room in lines.items()]
    places = gates + list(lines)
    chance.shuffle(places)
    desks = []
    while places:
        taken = [places.pop() for count in range(min(len(places), chance.randint(1, 3)))]
        to = chance.choice(["-"] + list(lines) * 2)
        rule = some_rule(chance, len(taken), lines.get(to, 4), far, word)
        desks.append("d" * (len(desks) + 1))
        rows.append(f"desk {desks[-1]} to {to} by {rule} from {' '.join(taken)}")
    for desk in desks:
        rows += [f"time {desk} {kind} {chance.randint(1, 5) * far}" for kind in kinds if chance.random() < 0.5]
        if chance.random() < 0.4:
            starts = [chance.randint(0, 30) * far for count in range(chance.randint(1, 3))]
            rows += [f"open {desk} {start} {start + chance.randint(1, 12) * far}" for start in starts]
    return rows + [f"pace {gate} {chance.choice(kinds)} {chance.randint(1, 9)} {chance.randint(1, 9)}"
                   for gate in gates if chance.random() < 0.3]


def mixed(chance, rows):
    """The rows in another order, each behind those that tell its names."""
    left = list(rows)
    chance.shuffle(left)
    told = []
    while left:
        readable = [row for row in left if is_read("\n".join(told + [row]))]
        told.append(readable[0])
        left.remove(readable[0])
    return told


def is_read(text):
    try:
        read_plant(text)
    except BadPlant:
        return False
    return True


def some_day(chance, plant, last=25):
    """A day for the plant, with times from 0 to last."""
    times = sorted(chance.randint(0, last) for count in range(chance.randint(0, 25)))
    kinds = list(plant.kinds)
    return [(time, chance.choice(plant.gates), chance.choice(kinds), chance.choice(["", "x", "y"])) for time in times]
