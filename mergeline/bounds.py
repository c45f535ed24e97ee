"""Bounds of waiting that are told ahead from the plant alone, each with a day in which a good waits long.

A desk for which a bound is told puts out and is always open: it never stands still while goods wait. So what came,
work by work, tells when a good is taken.
"""

from mergeline.errors import NoBound
from mergeline.plants import takers_of, work_of
from mergeline.running import run_by_events
from mergeline.waits import waits_of

RULES = ("turns", "eldest", "rank")


class Flow:
    """What may come to one of a desk's gates: the kind, its work there, burst and gap; and the gate's share."""

    def __init__(self, gate, kind, work, burst, gap, share):
        self.gate = gate
        self.kind = kind
        self.work = work
        self.burst = burst
        self.gap = gap
        self.share = share


class Stand:
    """A gate's own flow among those of its desk, ahead of it and behind it."""

    def __init__(self, rule, flows, place):
        self.rule = rule
        self.ahead = flows[:place]
        self.own = flows[place]
        self.behind = flows[place + 1:]
        # Goods of the places behind go ahead of the gate's own ones only if they come earlier than those.
        self.start = 1 if self.behind else 0


def bound_of(plant, gate):
    """The bound of waiting at a gate, a day, one of its goods, and how much less than the bound that good stays."""
    word = fault_of(plant, gate)
    if word != "":
        raise NoBound(word)
    told = reckoned(stand_at(plant, gate))
    tries = [longest_stay(plant, gate, day) + (day,) for day in told[1]]
    best = max(tries, key=lambda tried: tried[0])
    return (told[0], best[2], best[1], told[0] - best[0])


def fault_of(plant, gate):
    """The first word that is due of a gate, the empty text for none."""
    takers = takers_of(plant, gate)
    if gate not in plant.gates or takers == []:
        return "gate"
    word = desk_fault(plant, takers[0])
    if word == "" and has_too_much(stand_at(plant, gate)):
        return "load"
    return word


def desk_fault(plant, desk):
    """The first word that is due of a gate's desk, whatever the load; the empty text for none."""
    if desk[2][0] not in RULES:
        return "rule"
    if desk[1] != "":
        return "out"
    if desk[0] in plant.hours:
        return "hours"
    # No place but a gate has a pace.
    if not all([place in plant.paces for place in desk[3]]):
        return "pace"
    if any([plant.kinds[plant.paces[place][0]] is not None for place in desk[3]]):
        return "spoil"
    return ""


def has_too_much(stand):
    """Whether so much may come, for ever, that no bound is told."""
    if stand.rule[0] == "turns":
        round_work = sum([flow.share * flow.work for flow in all_flows(stand)])
        return round_work > stand.own.share * stand.own.gap
    if stand.rule == ("rank", None):
        return free_part(stand.ahead + [stand.own]) <= 0
    return free_part(all_flows(stand)) <= 0


def stand_at(plant, gate):
    """The stand of a gate whose desk's places all have paces."""
    desk = takers_of(plant, gate)[0]
    flows = []
    for number, place in enumerate(desk[3]):
        pace = plant.paces[place]
        share = desk[2][1][number] if desk[2][0] == "turns" else 1
        flows.append(Flow(place, pace[0], work_of(plant, desk[0], pace[0]), pace[1], pace[2], share))
    return Stand(desk[2], flows, desk[3].index(gate))


def all_flows(stand):
    """The flows of all places of the desk."""
    return stand.ahead + [stand.own] + stand.behind


def common_time(flows):
    """A time that is a multiple of all gaps, so that parts of it are whole numbers."""
    time = 1
    for flow in flows:
        time *= flow.gap
    return time


def free_part(flows):
    """The part of the common time that the steady flows leave free of work."""
    time = common_time(flows)
    return time - sum([flow.work * (time // flow.gap) for flow in flows])


def work_within(flows, time):
    """The most work that comes from some time on to so much later."""
    return sum([flow.work * (flow.burst + time // flow.gap) for flow in flows])


def reckoned(stand):
    """The bound at a stand, and the days in which a good waits long there."""
    if stand.rule[0] == "turns":
        bound = turns_stay(stand)
        return (bound, [turns_day(stand, bound)])
    if stand.rule[0] == "eldest":
        return (eldest_stay(stand), [eldest_day(stand)])
    ranked = ranked_stay(stand)
    if stand.rule[1] is None:
        return (ranked[0], [ranked_day(stand, ranked)])
    # A rank with a bound stands between the two: the less the bound, the nearer to `eldest`.
    return (bounded_stay(stand), [eldest_day(stand), ranked_day(stand, ranked)])


def eldest_stay(stand):
    """The greatest stay by `eldest`: all bursts are worked on ahead of the gate's last good."""
    # Later goods add less work than time: there the stay is no longer.
    return work_within(all_flows(stand), 0) - stand.own.work - stand.start


def bounded_stay(stand):
    """The bound by `rank` with a bound.

    A good stays no longer than the desk is busy ahead of the work on it; and once it has waited for the rule's bound,
    just the work at hand and the elder goods' work go ahead of it.
    """
    flows = all_flows(stand)
    work = stand.own.work
    most = stand.rule[1] + max([flow.work for flow in flows]) - 1 + eldest_stay(stand)
    # Near the full load the busy time is very long: it is sought no farther than it counts.
    time = 0
    while work_within(flows, time) > time and time - work < most:
        time = work_within(flows, time)
    return min(time - work, most)


def turns_stay(stand):
    """The bound by `turns`: the greatest one over how many of the gate's goods are taken ahead of a good.

    Ahead of it go the work at hand, all other places' shares with each share of the gate's goods, and those goods.
    """
    own = stand.own
    others = sum([flow.share * flow.work for flow in stand.ahead + stand.behind])
    stays = []
    for count in range(own.burst + own.share):
        later = max(0, (count + 1 - own.burst) * own.gap)
        stays.append(own.work - 1 + (count // own.share + 1) * others + count * own.work - later)
    return max(stays)


def ranked_stay(stand):
    """The greatest stay by `rank -`, and behind how many of the gate's goods beyond its burst.

    A good of a place behind is at work when, a time later, all goods of the gate and of those ahead begin to come.
    """
    own = stand.own
    best = (-1, 0)
    held = max([flow.work - 1 for flow in stand.behind], default=0)
    end = 0
    more = 0
    todo = held + own.work * (own.burst - 1)
    while latest_end(stand.ahead, todo) - more * own.gap > best[0]:
        end = least_end(stand.ahead, todo, end)
        # Behind the busy time no good stays longer than some earlier one: the first greatest stay is within it.
        if end - more * own.gap > best[0]:
            best = (end - more * own.gap, more)
        more += 1
        todo += own.work
    return best


def least_end(flows, todo, time):
    """The least time at which so much work and all that came till then is done, where it is no less than this time."""
    while todo + work_within(flows, time) > time:
        time = todo + work_within(flows, time)
    return time


def latest_end(flows, todo):
    """A time beyond which `least_end` never lies; it rises less with each own good that is worked on than its gap."""
    # No good of these flows comes just at the end, or there would be work left: each gap began a time ago or earlier.
    return (todo + work_within(flows, 0) - 1) * common_time(flows) // free_part(flows) + 1


def coming(flow, start, last):
    """The goods of a flow that come as fast as may be, from start on to the last time."""
    times = [start] * flow.burst + list(range(start + flow.gap, last + 1, flow.gap))
    return [(time, flow.gate, flow.kind, "") for time in times]


def eldest_day(stand):
    """A day in which a good stays longest by `eldest`."""
    goods = []
    for flow in stand.behind:
        goods.extend(coming(flow, 0, 0))
    for flow in stand.ahead + [stand.own]:
        goods.extend(coming(flow, stand.start, stand.start))
    return sorted(goods)


def ranked_day(stand, ranked):
    """A day in which a good stays longest by `rank -`, of what `ranked_stay` tells."""
    begin = stand.start
    came = begin + ranked[1] * stand.own.gap
    goods = coming(stand.own, begin, came)
    for flow in stand.ahead:
        goods.extend(coming(flow, begin, came + ranked[0]))
    if stand.behind:
        heaviest = max(stand.behind, key=lambda flow: flow.work)
        goods.append((0, heaviest.gate, heaviest.kind, ""))
    return sorted(goods)


def turns_day(stand, bound):
    """A day in which a good stays long by `turns`.

    First the gate's goods come alone till its share is used up; then, as its burst is whole again, all come.
    """
    own = stand.own
    begin = own.share * own.gap
    rounds = (own.burst + own.share - 1) // own.share + 1
    goods = [(time, own.gate, own.kind, "") for time in range(0, begin, own.gap)]
    goods.extend(coming(own, begin, begin + bound)[:own.burst + own.share])
    for flow in stand.ahead + stand.behind:
        goods.extend(coming(flow, begin, begin + bound)[:flow.share * rounds])
    return sorted(goods)


def longest_stay(plant, gate, day):
    """The longest stay at a gate in a run of a day to its end, and the first good that stays there so long."""
    desk = takers_of(plant, gate)[0]
    end = day[-1][0] + sum([work_of(plant, desk[0], good[2]) for good in day])
    waits = waits_of(plant, day, run_by_events(plant, day, end))
    stays = [(waits[number][0][2] - good[0], number) for number, good in enumerate(day) if good[1] == gate]
    return max(stays, key=lambda stay: stay[0])
