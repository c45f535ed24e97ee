"""Plants: how their texts are read, and what is asked of them.

A row's words are first read to an entry, a tuple with the form's own word ahead, by themselves; the entry is then held
against the rows above it, and put into the plant.
"""

from mergeline.errors import BadPlant
from mergeline.rules import greatest_load
from mergeline.words import is_name, is_number, rows_of

MOST_PLACES = 6
# How the words behind a form's or a rule's own word are written. Those of `desk` and `turns` have no set number.
FORMS = {
    "kind": ("name", "count or -"),
    "gate": ("name",),
    "line": ("name", "count"),
    "time": ("name", "name", "count"),
    "open": ("name", "number", "number"),
    "pace": ("name", "name", "count", "count"),
}
RULES = {
    "eldest": (),
    "rank": ("number or -",),
    "many": ("count",),
    "gather": ("count", "number"),
    "meet": (),
}


class Plant:
    """Kinds, gates, lines, desks, times of work, hours and paces, all in the order of the rows that tell them."""

    def __init__(self):
        self.kinds = {}
        self.gates = []
        self.lines = {}
        self.desks = []
        self.times = {}
        self.hours = {}
        self.paces = {}


def read_plant(text):
    """The plant that a text tells."""
    plant = Plant()
    for number, words in rows_of(text):
        entry = entry_of(words)
        word = fault_of(plant, entry)
        if word != "":
            raise BadPlant(number, word)
        add_entry(plant, entry)
    return plant


def work_of(plant, desk, kind):
    """How long the desk works on that kind."""
    return plant.times.get((desk, kind), 1)


def open_at(plant, desk, time):
    """Whether the desk is open at that time."""
    if desk not in plant.hours:
        return True
    return any([start <= time < end for start, end in plant.hours[desk]])


def finds_room(plant, places, to, goods):
    """Whether a line has room for these goods beside those that wait there, told by places; out always has."""
    return to == "" or len(places[to]) + len(goods) <= plant.lines[to]


def fits(shape, word):
    """Whether a word is written in this shape."""
    if shape == "name":
        return is_name(word)
    if shape == "number":
        return is_number(word)
    if shape == "count":
        return is_number(word) and word != "0"
    if shape == "share":
        return fits("count", word) and len(word) == 1
    return word == "-" or fits(shape.split(" ")[0], word)


def value_of(shape, word):
    """What a word of this shape tells."""
    if shape == "name":
        return word
    if shape == "name or -":
        return "" if word == "-" else word
    return None if word == "-" else int(word)


def values_of(shapes, words):
    """The tuple of what words of these shapes tell, or None where the words are not so written."""
    if len(words) != len(shapes) or not all([fits(shape, word) for shape, word in zip(shapes, words)]):
        return None
    return tuple([value_of(shape, word) for shape, word in zip(shapes, words)])


def entry_of(words):
    """What a row tells, or None where it is none of the forms."""
    form = words[0]
    if form == "desk":
        return desk_entry(words)
    if form not in FORMS:
        return None
    values = values_of(FORMS[form], words[1:])
    if values is None or (form == "open" and values[1] >= values[2]):
        return None
    return (form,) + values


def desk_entry(words):
    """What a row of a desk tells, or None where it is not so written."""
    if "from" not in words[6:] or words[2] != "to" or words[4] != "by":
        return None
    # No word of a rule is `from`, but a place may be called so: the first one ends the rule.
    end = words.index("from", 6)
    head = values_of(("name", "name or -"), [words[1], words[3]])
    places = tuple(words[end + 1:])
    rule = rule_of(words[5:end], len(places))
    if head is None or rule is None or not are_places(places):
        return None
    return ("desk", head[0], head[1], rule, places)


def rule_of(words, many):
    """The rule that these words tell for a desk of so many places, or None where they tell none."""
    if words[0] == "turns":
        shares = values_of(("share",) * many, words[1:])
        return None if shares is None else ("turns", shares)
    if words[0] not in RULES or (words[0] == "meet" and many < 2):
        return None
    values = values_of(RULES[words[0]], words[1:])
    return None if values is None else (words[0],) + values


def are_places(names):
    """Whether a desk may be told to take from places of these names."""
    return 1 <= len(names) <= MOST_PLACES and all([is_name(name) for name in names]) and len(set(names)) == len(names)


def fault_of(plant, entry):
    """The first word that is due of an entry behind the rows that the plant has, the empty text for none."""
    if entry is None:
        return "row"
    if tells_twice(plant, entry):
        return "twice"
    if lacks_name(plant, entry):
        return "name"
    if lacks_room(plant, entry):
        return "room"
    return ""


def tells_twice(plant, entry):
    """Whether an entry tells what an earlier row has told."""
    form = entry[0]
    name = entry[1]
    if form == "kind":
        return name in plant.kinds
    if form == "gate" or form == "line":
        return is_place(plant, name)
    if form == "desk":
        return is_desk(plant, name) or any([takers_of(plant, place) != [] for place in entry[4]])
    if form == "time":
        return (name, entry[2]) in plant.times
    return form == "pace" and name in plant.paces


def lacks_name(plant, entry):
    """Whether an entry uses a name that no earlier row has told."""
    form = entry[0]
    if form == "desk":
        into_line = entry[2] == "" or entry[2] in plant.lines
        return not into_line or not all([is_place(plant, place) for place in entry[4]])
    if form == "time":
        return not is_desk(plant, entry[1]) or entry[2] not in plant.kinds
    if form == "open":
        return not is_desk(plant, entry[1])
    return form == "pace" and (entry[1] not in plant.gates or entry[2] not in plant.kinds)


def lacks_room(plant, entry):
    """Whether an entry is a desk whose greatest load never finds room where it is put."""
    if entry[0] != "desk" or entry[2] == "":
        return False
    return greatest_load(entry[3], len(entry[4])) > plant.lines[entry[2]]


def is_place(plant, name):
    """Whether the plant has a gate or line of this name."""
    return name in plant.gates or name in plant.lines


def is_desk(plant, name):
    """Whether the plant has a desk of this name."""
    return name in [desk[0] for desk in plant.desks]


def takers_of(plant, place):
    """The desks that take from this place: one, or none at all."""
    return [desk for desk in plant.desks if place in desk[3]]


def add_entry(plant, entry):
    """Puts an entry without fault into the plant."""
    form = entry[0]
    name = entry[1]
    if form == "kind":
        plant.kinds[name] = entry[2]
    elif form == "gate":
        plant.gates.append(name)
    elif form == "line":
        plant.lines[name] = entry[2]
    elif form == "desk":
        plant.desks.append(entry[1:])
    elif form == "time":
        plant.times[(name, entry[2])] = entry[3]
    elif form == "open":
        plant.hours.setdefault(name, []).append(entry[2:])
    else:
        plant.paces[name] = entry[2:]
