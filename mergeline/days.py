"""Days: lists of goods (time, gate, kind, parcel), held against a plant, written and read."""

from mergeline.errors import BadDay
from mergeline.words import is_name, is_number, rows_of


def look_day(plant, day):
    """True for a day without fault."""
    ahead = 0
    for number, good in enumerate(day):
        word = fault_of(plant, good, ahead)
        if word != "":
            raise BadDay(number, word)
        ahead = good[0]
    return True


def day_text(day):
    """The text of a day."""
    return "\n".join([good_row(good) for good in day])


def read_day(plant, text):
    """The day that a text tells."""
    day = []
    for number, words in rows_of(text):
        if not is_good_row(words):
            raise BadDay(number, "row")
        day.append((int(words[0]), words[1], words[2], "" if words[3] == "-" else words[3]))
    # Behind the walk: a row that is not so written is told ahead of any good at fault.
    look_day(plant, day)
    return day


def fault_of(plant, good, ahead):
    """The first word that is due of a good, where the one ahead of it came at that time; the empty text for none."""
    if not is_whole(good[0]) or good[0] < ahead:
        return "time"
    if good[1] not in plant.gates:
        return "gate"
    # As a list: a kind that no dict could hold is just none of the plant's.
    if good[2] not in list(plant.kinds):
        return "kind"
    if good[3] != "" and not (isinstance(good[3], str) and is_name(good[3])):
        return "parcel"
    return ""


def is_whole(time):
    """Whether a time is a whole number."""
    return isinstance(time, int) and not isinstance(time, bool)


def good_row(good):
    """The row of a good."""
    return " ".join([str(good[0]), good[1], good[2], good[3] if good[3] != "" else "-"])


def is_good_row(words):
    """Whether these words are written as the row of a good."""
    if len(words) != 4 or not is_number(words[0]) or not is_name(words[1]) or not is_name(words[2]):
        return False
    return words[3] == "-" or is_name(words[3])
