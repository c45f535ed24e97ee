"""A day run from time 0 on: its book, the list of all entries."""

from mergeline.floors import Floor


def run_by_turns(plant, day, until):
    """The book of the day, made time by time."""
    floor = Floor(plant, day)
    book = []
    for time in range(until + 1):
        book.extend(entries_at(floor, time))
    return book


def run_by_events(plant, day, until):
    """The same book, made without going through times at which nothing is to be done."""
    floor = Floor(plant, day)
    book = []
    time = floor.next_time(-1)
    while time is not None and time <= until:
        book.extend(entries_at(floor, time))
        time = floor.next_time(time)
    return book


def entries_at(floor, time):
    """Does all that is to be done at a time, and tells the entries."""
    entries = floor.come(time) + floor.spoil(time)
    entry = floor.act(time)
    while entry is not None:
        entries.append(entry)
        entry = floor.act(time)
    return entries
