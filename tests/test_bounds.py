"""Points 72 and 73, and point 1 for them."""

import copy
import itertools
import random
import unittest

from mergeline.bounds import bound_of
from mergeline.days import look_day
from mergeline.errors import BadPlant, MergeError, NoBound
from mergeline.paces import pace_fault
from mergeline.plants import read_plant, work_of
from mergeline.running import run_by_events, run_by_turns
from mergeline.waits import longest, waits_of
from tests.helper import fields_of, paced_day, paced_rows, parts_of, spoil_parts

GATES = "abcefg"
KINDS = "klmnop"


def plant_of(rule, *flows):
    """A plant with one desk d of this rule, over a gate for each flow "WORK BURST GAP", each of a kind of its own."""
    gates, kinds = GATES[:len(flows)], KINDS[:len(flows)]
    rows = [f"kind {kind} -" for kind in kinds] + [f"gate {gate}" for gate in gates]
    rows.append(f"desk d to - by {rule} from {' '.join(gates)}")
    for gate, kind, flow in zip(gates, kinds, flows):
        work, burst, gap = flow.split()
        rows += [f"time d {kind} {work}", f"pace {gate} {kind} {burst} {gap}"]
    return read_plant("\n".join(rows))


def desk_of(plant, gate):
    return [desk for desk in plant.desks if gate in desk[3]][0]


def flows_of(plant, desk):
    """The tuples (work, burst, gap) of a desk's places."""
    return [(work_of(plant, desk[0], plant.paces[place][0]),) + plant.paces[place][1:] for place in desk[3]]


def busy_time(flows, more=0):
    """The least time by which all work of these flows, and so much more, is done; sought step by step."""
    d = 0
    while more + sum(work * (burst + d // gap) for work, burst, gap in flows) > d:
        d += 1
    return d


def eldest_by_times(flows, j):
    """What `eldest` tells: the greatest, over the times of coming, of the work ahead of a good that comes then."""
    stays = []
    for t in range(busy_time(flows) + 1):
        work = sum(work * (burst + t // gap) for work, burst, gap in flows[:j + 1])
        work += sum(work * (burst + (t - 1) // gap) for work, burst, gap in flows[j + 1:] if t > 0)
        stays.append(work - flows[j][0] - t)
    return max(stays)


def ranked_by_times(flows, j):
    """What `rank -` tells: the greatest over all of the gate's goods in the busy time, each sought step by step."""
    held = max([work - 1 for work, burst, gap in flows[j + 1:]] + [0])
    own, stays = flows[j], []
    for count in range(own[1] + busy_time(flows[:j + 1], held) // own[2]):
        end = busy_time(flows[:j], held + own[0] * count)
        stays.append(end - max(0, count + 1 - own[1]) * own[2])
    return max(stays)


def turns_by_rounds(shares, flows, j):
    """What `turns` tells: good by good, with a round of all other places ahead of each share."""
    others = sum(share * flow[0] for place, (share, flow) in enumerate(zip(shares, flows)) if place != j)
    work, burst, gap = flows[j]
    left, best = work - 1, None
    for count in range(burst + shares[j]):
        left += others if count % shares[j] == 0 else 0
        left -= gap if count >= burst else 0
        best = left if best is None else max(best, left)
        left += work
    return best


def bound_by_times(plant, gate):
    """The bound that the point's words tell, reckoned another way."""
    desk = desk_of(plant, gate)
    flows, j = flows_of(plant, desk), desk[3].index(gate)
    if desk[2][0] == "turns":
        return turns_by_rounds(desk[2][1], flows, j)
    if desk[2][0] == "eldest":
        return eldest_by_times(flows, j)
    if desk[2][1] is None:
        return ranked_by_times(flows, j)
    greatest = max(work for work, burst, gap in flows)
    return min(busy_time(flows) - flows[j][0], desk[2][1] + greatest - 1 + eldest_by_times(flows, j))


def last_time(plant, gate, bound):
    """The greatest time that the day told may have."""
    desk = desk_of(plant, gate)
    flows, j = flows_of(plant, desk), desk[3].index(gate)
    if desk[2][0] == "turns":
        return bound + desk[2][1][j] * flows[j][2]
    if desk[2] == ("rank", None):
        return bound + busy_time(flows[:j + 1], max([flow[0] for flow in flows[j + 1:]] + [0]))
    return bound + busy_time(flows)


def is_tight(rule):
    return rule in (("eldest",), ("rank", None))


class Bounds(unittest.TestCase):
    def check_told(self, plant, gate):
        """What the point promises of the day and good that are told."""
        bound, day, good, gap = bound_of(plant, gate)
        desk = desk_of(plant, gate)
        self.assertTrue(look_day(plant, day))
        self.assertIsNone(pace_fault(plant, day))
        self.assertTrue(all(one[1] in desk[3] for one in day))
        self.assertLessEqual(day[-1][0], last_time(plant, gate, bound))
        self.assertEqual(day[good][1], gate)
        until = day[-1][0] + sum(work_of(plant, desk[0], one[2]) for one in day) + 10
        stay = waits_of(plant, day, run_by_events(plant, day, until))[good][0]
        self.assertEqual(stay, (gate, day[good][0], day[good][0] + bound - gap))
        self.assertEqual(gap, 0 if is_tight(desk[2]) else max(gap, 0))
        return bound, day, good, gap

    def check_bounds(self, plant, *due):
        """The bounds of the gates of a plant of one desk, in their order; where None is due, the load is too great."""
        for gate, bound in zip(plant.desks[0][3], due):
            if bound is None:
                with self.assertRaises(NoBound) as taken:
                    bound_of(plant, gate)
                self.assertEqual(taken.exception.word, "load")
            else:
                self.assertEqual(self.check_told(plant, gate)[0], bound)
                self.assertEqual(bound_by_times(plant, gate), bound)
        self.assertEqual(len(due), len(plant.desks[0][3]))


class ByHand(Bounds):
    """Point 72: the numbers."""

    def test_eldest(self):
        # All bursts but the last good's own work; a time less where places behind must come earlier.
        self.check_bounds(plant_of("eldest", "2 3 10", "3 2 12"), 9, 9)
        self.check_bounds(plant_of("eldest", "2 3 10", "3 2 12", "1 4 5"), 13, 12, 15)
        self.check_bounds(plant_of("eldest", "1 1 9", "5 1 9", "1 1 9"), 5, 1, 6)

    def test_one_gate(self):
        for rule in ("eldest", "rank -"):
            self.check_bounds(plant_of(rule, "1 1 2"), 0)
            self.check_bounds(plant_of(rule, "4 1 5"), 0)
            self.check_bounds(plant_of(rule, "4 3 5"), 8)
            self.check_bounds(plant_of(rule, "9 10 10"), 81)
            self.assertEqual(bound_of(plant_of(rule, "59 60 60"), "a")[0], 59 * 59)
        self.check_bounds(plant_of("turns 1", "4 3 5"), 11)
        self.check_bounds(plant_of("turns 9", "1 1 1"), 0)

    def test_rank_without_a_bound(self):
        self.check_bounds(plant_of("rank -", "3 2 11", "5 3 20", "3 4 9"), 7, 21, 52)

    def test_rank_without_a_bound_behind_a_full_place(self):
        # What the last gate brings is without end, but of each busy time just one of its goods is ahead of the others.
        self.check_bounds(plant_of("rank -", "2 2 9", "7 60 1"), 8, None)
        self.check_bounds(plant_of("rank -", "2 2 9", "1 1 1"), 2, None)
        self.check_bounds(plant_of("rank -", "2 2 9", "3 1 9", "4 9 4", "60 1 60"), 61, 79, None, None)

    def test_rank_without_a_bound_where_a_later_good_stays_longest(self):
        # The gate's first good stays 4: the two of a go ahead of it. The next one comes at 2 and meets a third one of a.
        plant = plant_of("rank -", "2 2 5", "1 1 2")
        self.check_bounds(plant, 2, 5)
        self.assertEqual(waits_of(plant, [(0, "a", "k", ""), (0, "a", "k", ""), (0, "b", "l", "")],
                                  run_by_events(plant, [(0, "a", "k", ""), (0, "a", "k", ""), (0, "b", "l", "")], 30))[2],
                         [("b", 0, 4)])

    def test_rank_with_a_bound(self):
        # Busy to 15: the lesser is 15 less the work, till the rule's bound is so little that the other one is.
        flows = ("2 3 10", "3 2 12")
        self.assertEqual(busy_time([(2, 3, 10), (3, 2, 12)]), 17)
        self.check_bounds(plant_of("rank 0", *flows), 11, 11)
        self.check_bounds(plant_of("rank 2", *flows), 13, 13)
        self.check_bounds(plant_of("rank 3", *flows), 14, 14)
        self.check_bounds(plant_of("rank 4", *flows), 15, 14)
        self.check_bounds(plant_of("rank 999999", *flows), 15, 14)

    def test_turns(self):
        # (w - 1) and a round of the others' shares for each share of the gate's own goods, and these.
        self.check_bounds(plant_of("turns 1 1", "2 3 10", "3 2 12"), 1 + 3 * 3 + 2 * 2, 2 + 2 * 2 + 3)
        self.check_bounds(plant_of("turns 2 1", "2 3 10", "3 2 12"), 1 + 2 * 3 + 2 * 2, 2 + 2 * 4 + 3)
        self.check_bounds(plant_of("turns 3 2", "2 3 10", "3 2 12"), 1 + 1 * 6 + 2 * 2, 2 + 1 * 6 + 3)

    def test_turns_where_a_later_good_stays_longest(self):
        # The burst is just a share: with the next good a new round begins, at the cost of one gap.
        self.check_bounds(plant_of("turns 2 9", "1 2 10", "2 9 3"), 0 + 2 * 18 + 2 - 10, 1 + 2 * 2 + 9 * 2 - 3)

    def test_a_bound_of_0_has_a_day_too(self):
        for rule in ("eldest", "rank -", "rank 0", "turns 1"):
            bound, day, good, gap = bound_of(plant_of(rule, "1 1 5"), "a")
            self.assertEqual((bound, gap), (0, 0))
            self.assertEqual(day[good][1:], ("a", "k", ""))

    def test_a_time_of_work_that_no_row_tells(self):
        plant = read_plant("kind k -\ngate a\ngate b\ndesk d to - by eldest from a b\npace a k 3 9\npace b k 2 9")
        self.check_bounds(plant, 3, 4)

    def test_the_desks_order_of_places_counts(self):
        rows = ["kind k -", "gate a", "gate b", "desk d to - by rank - from b a", "time d k 2", "pace a k 2 9", "pace b k 3 9"]
        plant = read_plant("\n".join(rows))
        self.check_bounds(plant, 5, 8)

    def test_what_is_told_is_a_tuple(self):
        told = bound_of(plant_of("eldest", "2 3 10", "3 2 12"), "a")
        self.assertIs(type(told), tuple)
        self.assertEqual([type(one) for one in told], [int, list, int, int])
        self.assertTrue(all(type(good) is tuple for good in told[1]))


class ByChance(Bounds):
    """Point 72: for each rule and one to six gates, what is told, and that no good stays longer."""

    def each(self, seed, rules, most, many):
        """Plants by chance, of each rule with one to six gates, and the gates of their desk d that a bound is told for."""
        chance = random.Random(seed)
        told = 0
        for rule, gates, count in itertools.product(rules, range(1, 7), range(many)):
            plant = read_plant("\n".join(paced_rows(chance, rule, gates, most)))
            for gate in [desk for desk in plant.desks if desk[0] == "d"][0][3]:
                try:
                    bound_of(plant, gate)
                except NoBound as refused:
                    self.assertEqual(refused.word, "load")
                else:
                    told += 1
                    yield chance, plant, gate
        self.assertGreater(told, 5 * len(rules) * many)

    RULES = ("eldest", "rank -", "rank 0", "rank 3", "rank 15", "rank 200", "turns")

    def test_the_day_told(self):
        for chance, plant, gate in self.each(721, self.RULES, 7, 8):
            bound = self.check_told(plant, gate)[0]
            self.assertEqual(bound, bound_by_times(plant, gate))

    def test_numbers_up_to_60(self):
        for chance, plant, gate in self.each(722, ("eldest", "rank 40", "turns"), 60, 1):
            bound = self.check_told(plant, gate)[0]
            self.assertEqual(bound, bound_by_times(plant, gate))
        for chance, plant, gate in self.each(723, ("rank -",), 20, 2):
            bound = self.check_told(plant, gate)[0]
            self.assertEqual(bound, bound_by_times(plant, gate))
        # Of these the day told alone is looked at: that the gap is 0, and all else that is promised of it.
        for chance, plant, gate in self.each(727, ("rank -",), 60, 3):
            self.check_told(plant, gate)

    def test_no_stay_is_longer(self):
        reached = 0
        for chance, plant, gate in self.each(724, self.RULES, 4, 6):
            bound = bound_of(plant, gate)[0]
            for count in range(4):
                day = paced_day(chance, plant, chance.choice([10, 40, bound + 5]))
                self.assertIsNone(pace_fault(plant, day))
                until = chance.choice([20, day[-1][0], 300])
                waits = waits_of(plant, day, run_by_events(plant, day, until))
                stays = [stays for number, stays in enumerate(waits) if day[number][1] == gate]
                self.assertLessEqual(longest(stays, until), bound)
                reached += longest(stays, until) == bound
        self.assertGreater(reached, 20)

    def test_no_stay_is_longer_in_the_day_told(self):
        for chance, plant, gate in self.each(725, self.RULES, 5, 1):
            bound, day, good, gap = bound_of(plant, gate)
            more = [(time, "z", "z", "") for time in range(0, day[-1][0] + 1, 3)]
            both = sorted(day + more, key=lambda one: one[0])
            for until in (0, day[good][0], day[good][0] + bound, day[-1][0] + 500):
                waits = waits_of(plant, both, run_by_events(plant, both, until))
                stays = [stays for number, stays in enumerate(waits) if both[number][1] == gate]
                self.assertLessEqual(longest(stays, until), bound)
                # What comes to gates of another desk changes nothing at this one.
                if until == day[-1][0] + 500:
                    self.assertGreaterEqual(longest(stays, until), bound - gap)

    def test_both_runs(self):
        for chance, plant, gate in self.each(726, self.RULES, 3, 1):
            bound, day, good, gap = bound_of(plant, gate)
            until = day[good][0] + bound
            self.assertEqual(run_by_turns(plant, day, until), run_by_events(plant, day, until))
            self.assertEqual(waits_of(plant, day, run_by_turns(plant, day, until))[good][0][2], until - gap)


class Near(Bounds):
    """How near the day told comes to the bound, where point 72 leaves it open."""

    def stay(self, plant, gate):
        bound, day, good, gap = self.check_told(plant, gate)
        return bound - gap

    def test_rank_with_a_bound_of_0_is_as_eldest(self):
        flows = ("2 3 14", "3 2 12", "1 4 9")
        eldest, ranked = plant_of("eldest", *flows), plant_of("rank 0", *flows)
        for gate in "abc":
            self.assertEqual(self.stay(ranked, gate), self.stay(eldest, gate))

    def test_rank_with_a_great_bound_is_as_rank_without_one(self):
        flows = ("2 3 14", "3 2 12", "1 4 9")
        free, bounded = plant_of("rank -", *flows), plant_of("rank 999", *flows)
        for gate in "abc":
            self.assertEqual(self.stay(bounded, gate), self.stay(free, gate))

    def test_turns_but_for_the_work_at_hand(self):
        # The others' bursts last for all rounds, so that just the work at hand, one less than the gate's own, is lacking.
        for shares, flows in (("1 1", ("2 3 10", "3 9 12")), ("2 3 1", ("4 5 10", "2 18 9", "3 9 20")),
                              ("1 1", ("1 1 10", "3 4 12")), ("3 2", ("5 7 9", "4 20 9")),
                              ("2 9", ("1 2 10", "2 60 3")), ("9 1", ("3 1 30", "2 3 40"))):
            plant = plant_of(f"turns {shares}", *flows)
            work = int(flows[0].split()[0])
            self.assertEqual(bound_of(plant, "a")[3], work - 1)

    def test_turns_where_the_others_come_on_at_their_pace(self):
        # Of b three come at once; the fourth, ten times later, is in time for the fourth round too.
        plant = plant_of("turns 1 1", "2 4 10", "3 3 10")
        self.assertEqual(bound_of(plant, "a")[0], 1 + 4 * 3 + 3 * 2)
        self.assertEqual(self.stay(plant, "a"), 4 * 3 + 3 * 2)


class AllDays(Bounds):
    """Point 72: of all short days within the paces, the longest stay, where the bound is the least that holds."""

    def all_times(self, burst, gap, last):
        """All lists of times to last that keep a pace."""
        found = [[]]
        for time in range(last + 1):
            found = [times + [time] * count for times in found for count in range(burst + 1)
                     if self.keeps(times + [time] * count, burst, gap, last)]
        return found

    def keeps(self, times, burst, gap, last):
        return all(len([one for one in times if s <= one <= e]) <= burst + (e - s) // gap
                   for s in range(last + 1) for e in range(s, last + 1))

    def longest_of_all(self, plant, last):
        """The longest stay at each gate in all days to last."""
        gates = plant.desks[0][3]
        most = dict.fromkeys(gates, 0)
        goods = []
        for gate in gates:
            kind, burst, gap = plant.paces[gate]
            goods.append([[(time, gate, kind, "") for time in times] for times in self.all_times(burst, gap, last)])
        for parts in itertools.product(*goods):
            day = sorted(good for part in parts for good in part)
            waits = waits_of(plant, day, run_by_events(plant, day, 60))
            for number, good in enumerate(day):
                most[good[1]] = max(most[good[1]], waits[number][0][2] - good[0])
        return most

    def test_the_least_that_holds(self):
        for rule, last, flows in (("eldest", 4, ("2 2 5", "1 2 3")), ("eldest", 4, ("1 1 4", "2 1 5", "1 1 4")),
                                  ("rank -", 4, ("3 1 9", "1 2 3")), ("rank -", 4, ("1 2 3", "4 1 9")),
                                  ("rank -", 5, ("2 2 5", "1 1 2")), ("rank -", 6, ("1 1 4", "2 1 6", "3 1 9"))):
            plant = plant_of(rule, *flows)
            due = {gate: bound_of(plant, gate)[0] for gate in plant.desks[0][3]}
            self.assertEqual(self.longest_of_all(plant, last), due)

    def test_no_longer_than_the_bound(self):
        for rule in ("rank 0", "rank 1", "rank 3", "turns 1 1", "turns 2 1", "turns 1 2"):
            plant = plant_of(rule, "2 2 6", "1 2 5")
            most = self.longest_of_all(plant, 4)
            for gate in "ab":
                bound, day, good, gap = bound_of(plant, gate)
                self.assertLessEqual(most[gate], bound)
                self.assertGreaterEqual(bound - gap, 2)


class NearTheFullLoad(Bounds):
    """Points 72 and 73: loads just below the one at which `load` is due."""

    def test_eldest(self):
        self.check_bounds(plant_of("eldest", "1 2 2", "1 2 3", "1 2 7"), 4, 4, 5)
        self.check_bounds(plant_of("eldest", "1 9 2", "1 9 3", "1 9 7", "1 1 43"), 26, 26, 26, 27)
        self.check_bounds(plant_of("eldest", "59 1 60"), 0)

    def test_rank_with_a_bound(self):
        self.check_bounds(plant_of("rank 5", "1 2 2", "1 2 3", "1 2 7"), 9, 9, 10)
        busy = busy_time([(1, 2, 2), (1, 2, 3), (1, 2, 7)])
        self.assertGreater(busy, 100)
        self.check_bounds(plant_of("rank 999999", "1 2 2", "1 2 3", "1 2 7"), busy - 1, busy - 1, busy - 1)
        # Of each gap one time is left: 59 * 60 are, those of the last gap's among them, when all is done.
        self.check_bounds(plant_of("rank 999999", "59 60 60"), 60 * (59 * 60 - 59) + 59 - 59)

    def test_rank_without_a_bound(self):
        for numbers in ([(1, 2, 2), (1, 2, 3), (1, 2, 7)], [(5, 1, 9), (2, 2, 7), (1, 2, 7)],
                        [(3, 2, 7), (3, 1, 8), (2, 2, 11)]):
            flows = [" ".join(str(number) for number in flow) for flow in numbers]
            due = [ranked_by_times(numbers, j) for j in range(len(flows))]
            self.check_bounds(plant_of("rank -", *flows), *due)

    def test_turns_just_filled(self):
        # A round is 4 + 2 * 1 + 3 * 3 = 15 times long, and so much of each gate's share comes in it.
        self.check_bounds(plant_of("turns 1 2 3", "4 3 15", "1 1 8", "3 5 5"), 3 + 3 * 11 + 2 * 4, 0 + 13,
                          2 + 3 * 6 + 6 * 3 - 2 * 5)

    def test_the_least_loads(self):
        for rule in ("eldest", "rank -", "rank 7", "turns 1 1 1 1 1 1"):
            plant = plant_of(rule, *["1 1 60"] * 6)
            for gate in GATES:
                bound = self.check_told(plant, gate)[0]
                self.assertEqual(bound, bound_by_times(plant, gate))


class Refused(unittest.TestCase):
    """Point 73."""

    ROWS = ["kind k -", "kind m 9", "gate a", "gate b", "gate c", "line p 2", "line q 2", "line r 6"]

    def check(self, rows, gate, word):
        plant = read_plant("\n".join(self.ROWS + rows))
        if word == "":
            self.assertGreaterEqual(bound_of(plant, gate)[0], 0)
            return
        with self.assertRaises(NoBound) as taken:
            bound_of(plant, gate)
        self.assertEqual(taken.exception.word, word)
        self.assertIsInstance(taken.exception, MergeError)

    def test_nothing_at_fault(self):
        self.check(["desk d to - by eldest from a b", "pace a k 1 9", "pace b k 1 9"], "a", "")

    def test_gate_that_is_none_of_the_plants(self):
        rows = ["desk d to - by eldest from a b p", "pace a k 1 9", "pace b k 1 9"]
        for gate in ("", "x", "d", "k", "p", "q", "-", "A", "a ", "ab"):
            self.check(rows, gate, "gate")

    def test_gate_of_another_kind(self):
        for gate in (None, 0, True, ("a",), ["a"], {"a": 1}, b"a"):
            self.check(["desk d to - by eldest from a", "pace a k 1 9"], gate, "gate")

    def test_gate_that_no_desk_takes_from(self):
        self.check(["desk d to - by eldest from a b", "pace a k 1 9", "pace b k 1 9", "pace c k 1 9"], "c", "gate")
        self.check([], "a", "gate")

    def test_a_plant_without_rows(self):
        with self.assertRaises(NoBound) as taken:
            bound_of(read_plant(""), "a")
        self.assertEqual(taken.exception.word, "gate")

    def test_rule(self):
        for rule in ("many 1", "many 2", "gather 1 0", "gather 3 4", "meet"):
            self.check([f"desk d to - by {rule} from a b", "pace a k 1 9", "pace b k 1 9"], "a", "rule")
        for rule in ("eldest", "rank -", "rank 0", "rank 4", "turns 1 2"):
            self.check([f"desk d to - by {rule} from a b", "pace a k 1 9", "pace b k 1 9"], "a", "")

    def test_out(self):
        for rule in ("eldest", "rank -", "rank 4", "turns 1 2"):
            self.check([f"desk d to p by {rule} from a b", "pace a k 1 9", "pace b k 1 9"], "b", "out")

    def test_hours(self):
        rows = ["desk d to - by eldest from a", "desk e to - by eldest from b", "pace a k 1 9", "pace b k 1 9"]
        self.check(rows + ["open d 0 999999"], "a", "hours")
        self.check(rows + ["open d 3 4", "open d 4 5"], "a", "hours")
        self.check(rows + ["open e 3 4"], "a", "")

    def test_pace(self):
        for rule in ("eldest", "rank -", "rank 4", "turns 1 2 3"):
            desk = f"desk d to - by {rule} from a b c"
            self.check([desk, "pace a k 1 90", "pace b k 1 90", "pace c k 1 90"], "a", "")
            self.check([desk, "pace a k 1 90", "pace b k 1 90"], "a", "pace")
            self.check([desk, "pace b k 1 90", "pace c k 1 90"], "a", "pace")
            self.check([desk], "a", "pace")
            self.check([f"desk d to - by {rule} from a p b", "pace a k 1 90", "pace b k 1 90"], "b", "pace")

    def test_spoil(self):
        rows = ["desk d to - by rank - from a b", "desk e to - by eldest from c"]
        self.check(rows + ["pace a m 1 9", "pace b k 1 9"], "a", "spoil")
        self.check(rows + ["pace a k 1 9", "pace b m 1 9"], "a", "spoil")
        self.check(rows + ["pace a k 1 9", "pace b m 1 9"], "b", "spoil")
        self.check(rows + ["pace a k 1 9", "pace b k 1 9", "pace c m 1 9"], "b", "")

    def test_load(self):
        self.check(["desk d to - by eldest from a", "time d k 9", "pace a k 1 9"], "a", "load")

    def test_the_first_one_of_the_order(self):
        faults = ["desk d to p by many 2 from a b q", "open d 1 2", "pace a m 1 1"]
        self.check(faults, "p", "gate")
        self.check(faults, "c", "gate")
        self.check(faults, "a", "rule")
        faults[0] = "desk d to p by eldest from a b q"
        self.check(faults, "a", "out")
        faults[0] = "desk d to - by eldest from a b q"
        self.check(faults, "a", "hours")
        faults.remove("open d 1 2")
        self.check(faults, "a", "pace")
        faults[0] = "desk d to - by eldest from a b"
        self.check(faults, "a", "pace")
        faults.append("pace b k 1 1")
        self.check(faults, "a", "spoil")
        faults[1] = "pace a k 1 1"
        self.check(faults, "a", "load")
        faults[1:] = ["pace a k 1 3", "pace b k 1 2"]
        self.check(faults, "a", "")

    def test_two_at_once(self):
        paces = ["pace a k 1 9", "pace b k 1 9"]
        self.check(["desk d to p by meet from a b"] + paces, "a", "rule")
        self.check(["desk d to - by meet from a b", "open d 1 2"] + paces, "a", "rule")
        self.check(["desk d to - by many 1 from a b"], "a", "rule")
        self.check(["desk d to p by eldest from a b", "open d 1 2"] + paces, "a", "out")
        self.check(["desk d to p by eldest from a b", "pace a m 1 1"], "a", "out")
        self.check(["desk d to - by eldest from a b", "open d 1 2", "pace a k 1 9"], "a", "hours")
        self.check(["desk d to - by eldest from a b", "open d 1 2", "pace a m 1 9", "pace b k 1 1"], "a", "hours")
        self.check(["desk d to - by eldest from a b", "pace a m 1 9"], "a", "pace")
        self.check(["desk d to - by eldest from a b", "pace a k 1 1"], "a", "pace")
        self.check(["desk d to - by eldest from a b", "pace a m 1 1", "pace b k 1 1"], "a", "spoil")


class Load(Bounds):
    """Point 73: `load` just due and just not due."""

    def due(self, plant):
        """The gates of the plant's desk for which `load` is due."""
        found = []
        for gate in plant.desks[0][3]:
            try:
                bound_of(plant, gate)
            except NoBound as refused:
                self.assertEqual(refused.word, "load")
                found.append(gate)
        return "".join(found)

    # Loads that are 1 in truth; floats would tell less of the first ones, and more of others.
    FULL = (["1 2 6"] * 6, ["1 1 3", "2 1 3"], ["1 1 2", "1 2 3", "1 3 6"], ["7 1 7"], ["1 1 10", "2 1 10", "7 1 10"],
            ["1 1 2", "1 1 3", "1 1 7", "1 1 42"], ["3 1 49", "46 1 49"], ["1 1 1"],
            ["10 2 60", "7 2 42", "8 2 48", "9 2 54", "5 2 30", "1 2 6"])

    def test_eldest_and_rank_with_a_bound(self):
        for rule in ("eldest", "rank 0", "rank 8", "rank 999999"):
            for flows in self.FULL:
                self.assertEqual(self.due(plant_of(rule, *flows)), GATES[:len(flows)])
                for place in range(len(flows)):
                    work, burst, gap = flows[place].split()
                    less = list(flows)
                    less[place] = f"{work} {burst} {int(gap) + 1}"
                    self.assertEqual(self.due(plant_of(rule, *less)), "")
                    more = list(flows)
                    more[place] = f"{int(work) + 1} {burst} {gap}"
                    self.assertEqual(self.due(plant_of(rule, *more)), GATES[:len(flows)])

    def test_rank_without_a_bound(self):
        for flows in self.FULL:
            # All places ahead of the last one leave some time free.
            last = GATES[len(flows) - 1]
            self.assertEqual(self.due(plant_of("rank -", *flows)), last)
            self.assertEqual(self.due(plant_of("rank -", *flows[::-1])), last)
            work, burst, gap = flows[-1].split()
            self.assertEqual(self.due(plant_of("rank -", *flows[:-1], f"{work} {burst} {int(gap) + 1}")), "")

    def test_rank_without_a_bound_at_its_first_and_its_last_gate(self):
        self.assertEqual(self.due(plant_of("rank -", "4 1 5", "1 1 5", "1 1 60")), "bc")
        self.assertEqual(self.due(plant_of("rank -", "5 1 5", "1 1 60", "1 1 60")), "abc")
        self.assertEqual(self.due(plant_of("rank -", "4 1 5", "1 1 6", "1 1 30")), "c")
        self.assertEqual(self.due(plant_of("rank -", "4 1 5", "1 1 6", "1 1 31")), "")
        self.assertEqual(self.due(plant_of("rank -", "1 1 60", "60 1 1")), "b")

    def test_turns(self):
        # The sum of share times work is 2 * 3 + 1 * 4 + 3 * 1 = 13.
        shares = "turns 2 1 3"
        self.assertEqual(self.due(plant_of(shares, "3 1 7", "4 1 13", "1 1 5")), "")
        self.assertEqual(self.due(plant_of(shares, "3 1 6", "4 1 13", "1 1 5")), "a")
        self.assertEqual(self.due(plant_of(shares, "3 1 7", "4 1 12", "1 1 5")), "b")
        self.assertEqual(self.due(plant_of(shares, "3 1 7", "4 1 13", "1 1 4")), "c")
        self.assertEqual(self.due(plant_of(shares, "3 1 1", "4 1 1", "1 1 60")), "ab")

    def test_turns_just_filled(self):
        self.assertEqual(self.due(plant_of("turns 1 1", "2 5 5", "3 5 5")), "")
        self.assertEqual(self.due(plant_of("turns 1 1", "2 5 5", "4 5 5")), "ab")
        self.assertEqual(self.due(plant_of("turns 1", "5 5 5")), "")
        self.assertEqual(self.due(plant_of("turns 9", "6 5 5")), "a")

    def test_bursts_count_for_nothing(self):
        for rule in ("eldest", "rank -", "rank 3"):
            self.assertEqual(self.due(plant_of(rule, "1 60 3", "1 60 3")), "")


class Kept(unittest.TestCase):
    """Point 1."""

    def each(self):
        chance = random.Random(1)
        for rule in ("eldest", "rank -", "rank 4", "turns"):
            for gates in (1, 2, 4):
                plant = read_plant("\n".join(paced_rows(chance, rule, gates, 4)))
                for gate in plant.gates + ["x"]:
                    yield plant, gate

    def told(self, plant, gate):
        try:
            return bound_of(plant, gate)
        except NoBound as refused:
            return refused.word

    def test_nothing_that_is_handed_in_is_changed(self):
        for plant, gate in self.each():
            held = fields_of(plant)
            told = self.told(plant, gate)
            due = copy.deepcopy(told)
            spoil_parts(told)
            self.assertEqual(self.told(plant, gate), due)
            self.assertEqual(fields_of(plant), held)

    def test_no_list_is_told_twice(self):
        told = [self.told(plant, gate) for plant, gate in self.each() for count in range(2)]
        parts = parts_of(told)
        self.assertEqual(len({id(part) for part in parts}), len(parts))

    def test_a_day_told_may_be_handed_in_again(self):
        # Six bursts of 60 are more goods than a day has that is handed in.
        plant = plant_of("eldest", *["1 60 60"] * 6)
        bound, day, good, gap = bound_of(plant, "g")
        self.assertEqual((bound, len(day)), (359, 360))
        self.assertIsNone(pace_fault(plant, day))
        self.assertEqual(longest(waits_of(plant, day, run_by_events(plant, day, 3000)), 3000), 359)

    def test_what_is_refused_stands_under_no_other_refusal(self):
        with self.assertRaises(NoBound) as taken:
            bound_of(plant_of("eldest", "1 1 1"), "a")
        self.assertNotIsInstance(taken.exception, BadPlant)


if __name__ == "__main__":
    unittest.main()
