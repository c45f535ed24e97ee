"""Waits: the stays of each good in its places, as a book tells them.

A stay is a tuple (place, since, to); to is None where the book leaves the good there.
"""


def waits_of(plant, day, book):
    """A list for each good of the day, of its stays in order."""
    lines = {}
    for desk in plant.desks:
        lines[desk[0]] = desk[1]
    waits = [[] for good in day]
    for entry in book:
        if entry[0] == "come":
            begin_stay(waits[entry[2]], day[entry[2]][1], entry[1])
        elif entry[0] == "spoil":
            end_stay(waits[entry[2]], entry[1])
        elif entry[0] == "take":
            for good in entry[3]:
                end_stay(waits[good], entry[1])
        elif lines[entry[2]] != "":
            for good in entry[3]:
                begin_stay(waits[good], lines[entry[2]], entry[1])
    return waits


def longest(waits, until):
    """The greatest stay of all, where one that is left ends at until; 0 where there is none."""
    lengths = [0]
    for stays in waits:
        lengths.extend([(until if to is None else to) - since for place, since, to in stays])
    return max(lengths)


def begin_stay(stays, place, time):
    """Lets a good stay in a place from a time on."""
    stays.append((place, time, None))


def end_stay(stays, time):
    """Ends a good's last stay at a time."""
    stay = stays.pop()
    stays.append((stay[0], stay[1], time))
