"""The floor: the goods in their places, the desks' loads, and what is done there at a time.

A good that waits is kept as the rules ask for it, (good, since, kind, parcel), a load as (goods, end). A desk is
handed on as the plant has it, (name, to, rule, places).
"""

from mergeline.plants import finds_room, open_at, work_of
from mergeline.rules import load_of


class Floor:
    """A plant on a day, asked at times that never fall."""

    def __init__(self, plant, day):
        self.plant = plant
        self.day = list(day)
        self.came = 0
        self.waiting = {}
        for name in plant.gates + list(plant.lines):
            self.waiting[name] = []
        self.loads = {}
        self.turns = {}
        for desk in plant.desks:
            self.loads[desk[0]] = None
            self.turns[desk[0]] = (0, 0)

    def come(self, t):
        """Lets the goods come whose time it is, and tells their entries."""
        entries = []
        while self.came < len(self.day) and self.day[self.came][0] == t:
            self.wait_in(self.day[self.came][1], self.came, t)
            entries.append(("come", t, self.came))
            self.came += 1
        return entries

    def spoil(self, t):
        """Takes away the waiting goods that are past their time, and tells their entries."""
        spoilt = []
        left = {}
        for name, goods in self.waiting.items():
            left[name] = [good for good in goods if not self.is_spoilt(good[0], t)]
            spoilt.extend([good[0] for good in goods if self.is_spoilt(good[0], t)])
        self.waiting = left
        return [("spoil", t, good) for good in sorted(spoilt)]

    def act(self, t):
        """Lets the first desk that can put or take do so, and tells its entry, None where no desk can."""
        for desk in self.plant.desks:
            if self.can_put(desk, t):
                return self.put(desk, t)
            if self.can_take(desk, t):
                return self.take(desk, t)
        return None

    def places_now(self):
        """The goods that wait in each place."""
        places = {}
        for name, goods in self.waiting.items():
            places[name] = [good[0] for good in goods]
        return places

    def loads_now(self):
        """The load of each desk."""
        return dict(self.loads)

    def next_time(self, now):
        """The least time beyond now at which, left alone, something is to be done, None where there is none."""
        # The day's times never fall, so that the first good to come tells the next coming.
        times = [good[0] for good in self.day[self.came:self.came + 1]] + self.spoil_times()
        times.extend([self.act_time(desk, now + 1) for desk in self.plant.desks])
        # A good that was put into a line past its time spoils at the next time, not at its own.
        return min([max(time, now + 1) for time in times if time is not None], default=None)

    def wait_in(self, place, good, t):
        """Puts a good behind those that wait in a place."""
        told = self.day[good]
        self.waiting[place].append((good, t, told[2], told[3]))

    def spoil_time(self, good):
        """The time from which on a good is past its time, None where it never spoils."""
        told = self.day[good]
        keep = self.plant.kinds[told[2]]
        return None if keep is None else told[0] + keep

    def is_spoilt(self, good, t):
        """Whether a good is past its time at t."""
        time = self.spoil_time(good)
        return time is not None and t >= time

    def has_room(self, desk):
        """Whether the line into which the desk puts has room for all of its load."""
        return finds_room(self.plant, self.waiting, desk[1], self.loads[desk[0]][0])

    def can_put(self, desk, t):
        """Whether the desk can put at t."""
        load = self.loads[desk[0]]
        return load is not None and t >= load[1] and self.has_room(desk)

    def put(self, desk, t):
        """Puts the desk's load into its line, or out, and tells the entry."""
        goods = self.loads[desk[0]][0]
        self.loads[desk[0]] = None
        if desk[1] != "":
            for good in goods:
                self.wait_in(desk[1], good, t)
        return ("put", t, desk[0], goods)

    def rows_at(self, desk):
        """What waits at the desk, a list for each of its places."""
        return [self.waiting[place] for place in desk[3]]

    def load_at(self, desk, t):
        """The spots that the desk's rule tells at t, and the turn behind it."""
        return load_of(desk[2], self.rows_at(desk), self.turns[desk[0]], t)

    def can_take(self, desk, t):
        """Whether the desk can take at t."""
        if self.loads[desk[0]] is not None or not open_at(self.plant, desk[0], t):
            return False
        return self.load_at(desk, t)[0] != []

    def take(self, desk, t):
        """Takes a load from the desk's places, and tells the entry."""
        rows = self.rows_at(desk)
        told = self.load_at(desk, t)
        load = [rows[place][number] for place, number in told[0]]
        goods = tuple([good[0] for good in load])
        work = max([work_of(self.plant, desk[0], good[2]) for good in load])
        for place in desk[3]:
            self.waiting[place] = [good for good in self.waiting[place] if good[0] not in goods]
        self.loads[desk[0]] = (goods, t + work)
        self.turns[desk[0]] = told[1]
        return ("take", t, desk[0], goods)

    def spoil_times(self):
        """The times from which on the goods that wait are past their time, None for those that never are."""
        times = []
        for goods in self.waiting.values():
            times.extend([self.spoil_time(good[0]) for good in goods])
        return times

    def act_time(self, desk, start):
        """The least time from start on at which the desk, left alone, can act, None where there is none."""
        load = self.loads[desk[0]]
        if load is not None:
            return load[1] if self.has_room(desk) else None
        ready = self.ready_time(desk, start)
        return None if ready is None else self.open_time(desk[0], ready)

    def ready_time(self, desk, start):
        """The least time from start on at which the desk's rule tells a load of what waits now, None for none."""
        if self.load_at(desk, start)[0] != []:
            return start
        sinces = [row[0][1] for row in self.rows_at(desk) if row != []]
        # Time alone brings a load to no rule but `gather`; the bound of a `rank` only chooses another good.
        if desk[2][0] != "gather" or sinces == []:
            return None
        return min(sinces) + desk[2][2]

    def open_time(self, name, start):
        """The least time from start on at which the desk of this name is open, None where there is none."""
        if open_at(self.plant, name, start):
            return start
        return min([begin for begin, end in self.plant.hours[name] if begin > start], default=None)
