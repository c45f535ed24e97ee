"""From text to text: what is asked of plants and days that are told as texts."""

from mergeline.bounds import bound_of
from mergeline.books import replayed
from mergeline.booktext import book_text
from mergeline.days import day_text, read_day
from mergeline.plants import read_plant
from mergeline.running import run_by_events
from mergeline.stops import chain_of, stopped


def book_told(plant_rows, day_rows, until):
    """The text of a day's book."""
    plant = read_plant(plant_rows)
    return book_text(run_by_events(plant, read_day(plant, day_rows), until))


def bound_told(plant_rows, gate):
    """The row `BOUND GAP GOOD` of a gate, and the rows of the day behind it."""
    told = bound_of(read_plant(plant_rows), gate)
    return " ".join([str(told[0]), str(told[3]), str(told[2])]) + "\n" + day_text(told[1]) + "\n"


def stops_told(plant_rows, day_rows, until):
    """A row for each desk that is stopped behind the run."""
    plant = read_plant(plant_rows)
    day = read_day(plant, day_rows)
    held = replayed(plant, day, run_by_events(plant, day, until))
    rows = []
    for desk in stopped(plant, held[0], held[1], until):
        chain = chain_of(plant, held[0], held[1], until, desk)
        rows.append(" ".join([desk, chain[0]] + chain[1]) + "\n")
    return "".join(rows)
