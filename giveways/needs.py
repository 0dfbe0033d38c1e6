"""What turns need: swaps, chains, layers, PARTS, RUNS that come from one another, and what is surely ahead."""

from giveways.checks import check_marks, check_places, check_tasks
from giveways.diaries import is_taken
from giveways.errors import Unfit
from giveways.plans import Plan
from giveways.runs import played, states_if_run
from giveways.shapes import is_just, is_number, tupled
from giveways.ties import (
    needs_by_place,
    numbered,
    part_with,
    parts_by,
    rests_by_place,
    state_at_part,
    swap_places,
    with_swap,
)
from giveways.webs import first_run, turns_taking, web_of


def swaps(house, choices):
    """The set of the places of the first ones of two neighbours that a swap takes."""
    plan = Plan(tupled(house))
    return swap_places(plan, played(plan, choices), choices)


def swapped(house, choices, place):
    """The RUN with the turn at this place and the next one swapped."""
    plan = Plan(tupled(house))
    row = played(plan, choices)
    check_places(choices, (place,))
    if place not in swap_places(plan, row, choices):
        raise Unfit()
    return with_swap(tuple(choices), place)


def needs(house, choices, place):
    """The set of the places of the turns that the one at this place needs."""
    return all_needs(house, choices, (place,))[place]


def needed_by(house, choices, place):
    """The set of the places of the turns that need the one at this place."""
    told = all_needs(house, choices, (place,))
    return tuple([last for last, lot in enumerate(told) if place in lot])


def rests_on(house, choices, place):
    """The set of the places of the turns on which the one at this place rests."""
    return rests_by_place(all_needs(house, choices, (place,)))[place]


def need_pairs(house, choices):
    """The set of the pairs of places of which the turn at the second needs that at the first."""
    told = all_needs(house, choices, ())
    return tuple(sorted([(place, last) for last, lot in enumerate(told) for place in lot]))


def chain(house, choices, place, last):
    """A CHAIN from place to last, None if there is none."""
    told = all_needs(house, choices, (place, last))
    if place != last and place not in told[last]:
        return None
    rests = rests_by_place(told)
    row = [last]
    while row[-1] != place:
        row.append(min([at for at in rests[row[-1]] if at == place or place in told[at]]))
    return tuple(row[::-1])


def is_chain(house, choices, thing):
    """Whether thing is a CHAIN."""
    rests = rests_by_place(all_needs(house, choices, ()))
    if not is_row_of_places(thing, len(rests)) or thing == ():
        return False
    return all([thing[at - 1] in rests[thing[at]] for at in range(1, len(thing))])


def longest_chain(house, choices):
    """Of the CHAINS with the most turns the least, () if there are no turns."""
    rests = rests_by_place(all_needs(house, choices, ()))
    best = [(place,) for place in range(len(rests))]
    for place in reversed(range(len(rests))):
        # All that rest on this one stand behind it: their longest chains are told.
        longer = [(place, *best[last]) for last in range(len(rests)) if place in rests[last]]
        best[place] = longest_and_least([best[place], *longer])
    return longest_and_least(best)


def layers(house, choices):
    """The sets of the turns that need none, then of those that need none but turns in sets ahead, and so on."""
    told = all_needs(house, choices, ())
    levels = []
    for lot in told:
        levels.append(max([levels[place] + 1 for place in lot], default=0))
    many = max([level + 1 for level in levels], default=0)
    return tuple([tuple([place for place, level in enumerate(levels) if level == at]) for at in range(many)])


def is_part(house, choices, thing):
    """Whether thing is a PART of this RUN."""
    return is_part_by(all_needs(house, choices, ()), thing)


def part_of(house, choices, places):
    """The PART with the fewest turns that has these."""
    return part_with(all_needs(house, choices, places), places)


def part_first(house, choices, places):
    """The alike RUN that has the turns of that PART first, then all others."""
    return in_lots(choices, [part_of(house, choices, places)])


def state_behind(house, choices, places):
    """The STATE behind the turns of that PART alone."""
    part = part_of(house, choices, places)
    plan = Plan(tupled(house))
    return state_at_part(plan, played(plan, ()), choices, part)


def how_many_parts(house, choices):
    """How many PARTS there are."""
    return len(parts_by(all_needs(house, choices, ())))


def all_parts(house, choices):
    """The ascending list of the PARTS."""
    return sorted(parts_by(all_needs(house, choices, ())))


def put_off(house, choices, place):
    """The alike RUN in which this turn, then all that need it, come behind all others."""
    told = all_needs(house, choices, (place,))
    return in_lots(choices, [[at for at in range(len(told)) if at != place and place not in told[at]], [place]])


def brought_on(house, choices, place):
    """The alike RUN in which all that this turn needs, then it, come ahead of all others."""
    return in_lots(choices, [all_needs(house, choices, (place,))[place], [place]])


def are_alike(house, one, other):
    """Whether both RUNS come from one another by swaps."""
    return places_there(house, one, other) is not None


def least_alike(house, choices):
    """Of all alike RUNS the least."""
    told = all_needs(house, choices, ())
    row = []
    while len(row) < len(told):
        free = [at for at in range(len(told)) if at not in row and all([place in row for place in told[at]])]
        row.append(min(free, key=lambda at: choices[at]))
    return tuple([choices[at] for at in row])


def how_many_alike(house, choices):
    """How many alike RUNS there are, itself too."""
    told = all_needs(house, choices, ())
    ways = {(): 1}
    for part in sorted(parts_by(told), key=len):
        for place in [at for at in range(len(told)) if at not in part]:
            if all([other in part for other in told[place]]):
                larger = tuple(sorted([*part, place]))
                ways[larger] = ways.get(larger, 0) + ways[part]
    return ways[tuple(range(len(told)))]


def fewest_swaps(house, one, other):
    """How many swaps a SWAP ROW has, None if the RUNS are not alike."""
    there = places_there(house, one, other)
    if there is None:
        return None
    return len([last for last in range(len(there)) for place in range(last) if there[place] > there[last]])


def swap_row(house, one, other):
    """A SWAP ROW, None if the RUNS are not alike."""
    there = places_there(house, one, other)
    if there is None:
        return None
    row = [tuple(one)]
    crossed = crossings(there)
    while crossed:
        row.append(with_swap(row[-1], crossed[0]))
        there = with_swap(there, crossed[0])
        crossed = crossings(there)
    return tuple(row)


def is_swap_row(house, one, other, thing):
    """Whether thing is a SWAP ROW from one to the other."""
    plan = Plan(tupled(house))
    many = fewest_swaps(house, one, other)
    if many is None or not isinstance(thing, tuple) or len(thing) != many + 1:
        return False
    if not is_just(thing[0], tuple(one)) or not is_just(thing[-1], tuple(other)):
        return False
    for at in range(many):
        places = swap_places(plan, played(plan, thing[at]), thing[at])
        if not any([is_just(thing[at + 1], with_swap(thing[at], place)) for place in places]):
            return False
    return True


def surely_ahead(house, mark, goal):
    """Whether in each RUN that takes the STEP goal the STEP mark is taken ahead of it."""
    return run_against(house, mark, goal) is None


def run_against(house, mark, goal):
    """A RUN that takes goal last, and not mark ahead of it; None if there is none."""
    plan = Plan(tupled(house))
    check_marks(plan, (mark, goal))
    web = web_of(plan)
    places = [at for at, to in turns_taking(web, goal) if not is_taken(plan, web.rows[at], mark)]
    run = first_run(web, places)
    return run + (goal[0],) if run is not None else None


def is_run_against(house, mark, goal, thing):
    """Whether thing is a RUN that takes goal last, and not mark ahead of it."""
    plan = Plan(tupled(house))
    check_marks(plan, (mark, goal))
    row = states_if_run(plan, thing)
    if row is None or numbered(thing)[-1:] != [tupled(goal)]:
        return False
    return not is_taken(plan, row[-2], mark)


def all_needs(house, choices, places):
    """For each turn the set of the places of those that it needs; refuses places of no turns."""
    plan = Plan(tupled(house))
    row = played(plan, choices)
    check_places(choices, places)
    return needs_by_place(plan, row, choices)


def is_row_of_places(thing, many):
    """Whether thing is a tuple of numbers from 0 that are less than many."""
    return isinstance(thing, tuple) and all([is_number(place) and 0 <= place < many for place in thing])


def is_part_by(told, thing):
    """Whether thing is a PART, by the needs of the turns."""
    return is_row_of_places(thing, len(told)) and thing == part_with(told, thing)


def longest_and_least(chains):
    """Of the longest ones of these CHAINS the least, () if there are none."""
    most = max([len(row) for row in chains], default=0)
    return min([row for row in chains if len(row) == most], default=())


def in_lots(choices, lots):
    """The turns at the places of each lot, then all others, in the order of the CHOICES."""
    row = [at for lot in lots for at in lot]
    rest = [at for at in range(len(choices)) if at not in row]
    return tuple([choices[at] for at in row + rest])


def places_there(house, one, other):
    """For each turn of one the place of the same turn in the other, None if the two are not alike."""
    plan = Plan(tupled(house))
    check_tasks(plan, one)
    check_tasks(plan, other)
    row = played(plan, one)
    played(plan, other)
    if sorted(one) != sorted(other):
        return None
    marks = numbered(other)
    there = tuple([marks.index(mark) for mark in numbered(one)])
    for last, lot in enumerate(needs_by_place(plan, row, one)):
        if any([there[place] > there[last] for place in lot]):
            return None
    return there


def crossings(there):
    """The places of the first ones of two neighbours that stand the other way about there."""
    return [at for at in range(len(there) - 1) if there[at] > there[at + 1]]
