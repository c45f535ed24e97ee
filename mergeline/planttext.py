"""How a plant is written as a text."""


def plant_text(plant):
    """The text of a plant."""
    rows = place_rows(plant) + desk_rows(plant)
    for gate, pace in plant.paces.items():
        rows.append(["pace", gate, pace[0], str(pace[1]), str(pace[2])])
    return "\n".join([" ".join(row) for row in rows])


def place_rows(plant):
    """The words of the rows of the kinds, gates and lines."""
    rows = []
    for kind, keep in plant.kinds.items():
        rows.append(["kind", kind, number_word(keep)])
    for gate in plant.gates:
        rows.append(["gate", gate])
    for line, room in plant.lines.items():
        rows.append(["line", line, str(room)])
    return rows


def desk_rows(plant):
    """The words of the rows of the desks, their times of work and their hours."""
    rows = []
    for name, to, rule, places in plant.desks:
        rows.append(["desk", name, "to", to if to != "" else "-", "by"] + rule_words(rule) + ["from"] + list(places))
    for pair, work in plant.times.items():
        rows.append(["time", pair[0], pair[1], str(work)])
    for desk, hours in plant.hours.items():
        for start, end in hours:
            rows.append(["open", desk, str(start), str(end)])
    return rows


def rule_words(rule):
    """The words of a rule."""
    numbers = rule[1] if rule[0] == "turns" else rule[1:]
    return [rule[0]] + [number_word(number) for number in numbers]


def number_word(number):
    """A number as a word, `-` for None."""
    return "-" if number is None else str(number)
