"""Books: held against the right one, and done entry by entry without rules."""

from mergeline.errors import BadBook
from mergeline.plants import finds_room, work_of
from mergeline.running import run_by_events


class Replay:
    """The goods in their places and the desks' loads, as the entries done so far leave them."""

    def __init__(self, plant, day):
        self.plant = plant
        self.day = list(day)
        # The time of the entry ahead; at first 0, so that one below 0 is less than it.
        self.time = 0
        self.came = {}
        self.places = {}
        for name in plant.gates + list(plant.lines):
            self.places[name] = []
        self.by_name = {}
        self.loads = {}
        for desk in plant.desks:
            self.by_name[desk[0]] = desk
            self.loads[desk[0]] = None

    def fault_of(self, entry):
        """The first word that is due of an entry, the empty text for none."""
        if entry[1] < self.time:
            return "time"
        if entry[0] == "come":
            return "" if self.can_come(entry[2]) else "good"
        if entry[0] == "spoil":
            return "" if entry[2] in self.goods_in(list(self.places)) else "good"
        if entry[2] not in self.by_name:
            return "desk"
        if entry[0] == "take":
            return self.take_fault(self.by_name[entry[2]], entry[3])
        return self.put_fault(self.by_name[entry[2]], entry[1], entry[3])

    def enter(self, entry):
        """Does an entry without fault."""
        self.time = entry[1]
        if entry[0] == "come":
            self.came[entry[2]] = True
            self.places[self.day[entry[2]][1]].append(entry[2])
        elif entry[0] == "spoil":
            self.clear_from(list(self.places), (entry[2],))
        elif entry[0] == "take":
            self.clear_from(self.by_name[entry[2]][3], entry[3])
            self.loads[entry[2]] = (entry[3], entry[1] + self.work_on(entry[2], entry[3]))
        else:
            self.loads[entry[2]] = None
            self.put_behind(self.by_name[entry[2]][1], entry[3])

    def can_come(self, good):
        """Whether a good is one of the day's that has not come yet."""
        return 0 <= good < len(self.day) and good not in self.came

    def take_fault(self, desk, goods):
        """The first word that is due where the desk takes these goods, the empty text for none."""
        waiting_there = self.goods_in(desk[3])
        if len(set(goods)) < len(goods) or not all([good in waiting_there for good in goods]):
            return "good"
        return "" if self.loads[desk[0]] is None else "busy"

    def put_fault(self, desk, time, goods):
        """The first word that is due where the desk puts these goods, the empty text for none."""
        load = self.loads[desk[0]]
        if load is None or load[0] != goods:
            return "good"
        if time < load[1]:
            return "work"
        return "" if finds_room(self.plant, self.places, desk[1], goods) else "room"

    def goods_in(self, names):
        """All goods that wait in the places of these names."""
        goods = []
        for name in names:
            goods.extend(self.places[name])
        return goods

    def clear_from(self, names, goods):
        """Takes goods from the places of these names."""
        for name in names:
            self.places[name] = [good for good in self.places[name] if good not in goods]

    def put_behind(self, line, goods):
        """Puts goods behind those in the line, or out."""
        if line != "":
            self.places[line].extend(goods)

    def work_on(self, name, goods):
        """How long the desk of this name works on a load of these goods."""
        return max([work_of(self.plant, name, self.day[good][2]) for good in goods])


def first_fault(plant, day, until, book):
    """The first place at which a book differs from the right one, and the entry due there; None where there is none."""
    right = run_by_events(plant, day, until)
    for place, due in enumerate(right):
        if place == len(book) or book[place] != due:
            return (place, due)
    return None if len(book) == len(right) else (len(right), None)


def replayed(plant, day, book):
    """The goods that wait in each place and the load of each desk behind all entries of a book."""
    replay = Replay(plant, day)
    for number, entry in enumerate(book):
        word = replay.fault_of(entry)
        if word != "":
            raise BadBook(number, word)
        replay.enter(entry)
    return (replay.places, replay.loads)
