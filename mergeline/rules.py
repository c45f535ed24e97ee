"""The rules by which desks take goods, each by itself.

Rows tell what waits at a desk: a list for each of its places, of goods (good, since, kind, parcel).
A spot is a pair (place's number, number in its list).
"""


def load_of(rule, rows, turn, now):
    """The spots that a desk of this rule takes at the time now, and the turn behind it."""
    if not any(rows):
        return ([], turn)
    if rule[0] == "turns":
        return load_by_turns(rule[1], rows, turn)
    return (load_by_age(rule, rows, spots_by_age(rows), now), turn)


def greatest_load(rule, many):
    """The greatest number of goods that a desk of this rule with so many places takes at once."""
    if rule[0] == "many" or rule[0] == "gather":
        return rule[1]
    if rule[0] == "meet":
        return many
    return 1


def spots_by_age(rows):
    """All spots where goods wait, the elder first."""
    aged = []
    for place, goods in enumerate(rows):
        for number, good in enumerate(goods):
            aged.append((good[1], place, number))
    return [(place, number) for since, place, number in sorted(aged)]


def good_at(rows, spot):
    """The good that waits at a spot."""
    return rows[spot[0]][spot[1]]


def waited(rows, spot, now):
    """How long the good at a spot has waited."""
    return now - good_at(rows, spot)[1]


def load_by_turns(shares, rows, turn):
    """The load of `turns` and the turn behind it, where goods wait."""
    place = turn[0]
    taken = turn[1]
    while not rows[place] or taken >= shares[place]:
        place = (place + 1) % len(rows)
        taken = 0
    return ([(place, 0)], (place, taken + 1))


def load_by_age(rule, rows, spots, now):
    """The load of a rule without turns, where goods wait at these spots, the elder first."""
    if rule[0] == "eldest":
        return [spots[0]]
    if rule[0] == "rank":
        return load_by_rank(rule[1], rows, spots, now)
    if rule[0] == "many":
        return load_of_kind(rule[1], rows, spots)
    if rule[0] == "gather":
        return load_gathered(rule[1], rule[2], rows, spots, now)
    return load_met(rows, spots)


def load_by_rank(bound, rows, spots, now):
    """The load of `rank`: the eldest good past its bound, else the first one of the first place."""
    if bound is not None and waited(rows, spots[0], now) >= bound:
        return [spots[0]]
    # The least spot is the first one of the first place where goods wait.
    return [min(spots)]


def load_of_kind(most, rows, spots):
    """The load of `many`: the eldest goods of the eldest one's kind."""
    kind = good_at(rows, spots[0])[2]
    return [spot for spot in spots if good_at(rows, spot)[2] == kind][:most]


def load_gathered(most, age, rows, spots, now):
    """The load of `gather`: the eldest goods, once enough wait or the eldest has waited long enough."""
    if len(spots) < most and waited(rows, spots[0], now) < age:
        return []
    return spots[:most]


def load_met(rows, spots):
    """The load of `meet`: of the parcel with the eldest good that waits in each place, one good from each."""
    for spot in spots:
        parcel = good_at(rows, spot)[3]
        load = first_of_parcel(parcel, rows)
        if parcel != "" and len(load) == len(rows):
            return load
    return []


def first_of_parcel(parcel, rows):
    """The spot of the parcel's first good in each place that has one."""
    spots = []
    for place, goods in enumerate(rows):
        parcels = [good[3] for good in goods]
        if parcel in parcels:
            spots.append((place, parcels.index(parcel)))
    return spots
