"""Orders: ALL runs of a small HOUSE counted, told and read back, its ends, and how likely they are."""

from math import gcd

from giveways.checks import check_marks
from giveways.counts import numbers_of_runs, numbers_on, sole_ends
from giveways.diaries import is_taken
from giveways.errors import NoNumber
from giveways.plans import Plan
from giveways.runs import played, state_if_whole, told_by
from giveways.shapes import tupled
from giveways.webs import end_places, ends_of, least_runs, turns_taking, web_from, web_of


def how_many_runs(house):
    """How many whole runs there are."""
    return numbers_on(web_of(Plan(tupled(house))))[0]


def all_runs(house):
    """The ascending list of the whole runs."""
    return whole_runs(web_of(Plan(tupled(house))))


def nth_run(house, number):
    """The whole run with this place in the list of all."""
    web = web_of(Plan(tupled(house)))
    many = numbers_on(web)
    if not 0 <= number < many[0]:
        raise NoNumber(number)
    at = 0
    run = []
    while web.onward[at]:
        for task, to in web.onward[at]:
            if number < many[to]:
                break
            number -= many[to]
        run.append(task)
        at = to
    return tuple(run)


def place_of(house, choices):
    """The place of this whole run in the list of all."""
    plan = Plan(tupled(house))
    told_by(plan, choices)
    web = web_of(plan)
    many = numbers_on(web)
    at = 0
    place = 0
    for turn in choices:
        place += sum([many[to] for task, to in web.onward[at] if task < turn])
        at = dict(web.onward[at])[turn]
    return place


def runs_on(house, choices):
    """How many whole runs begin with this run."""
    plan = Plan(tupled(house))
    return numbers_on(web_from(plan, played(plan, choices)[-1]))[0]


def all_states(house):
    """The ascending list of the STATES behind all runs."""
    return sorted(web_of(Plan(tupled(house))).rows)


def states_at(house, number):
    """The ascending list of the STATES behind the runs of so many turns."""
    web = web_of(Plan(tupled(house)))
    return sorted([state for at, state in enumerate(web.rows) if web.turns[at] == number])


def most_ready(house):
    """How many tasks are ready at one STATE at the most."""
    return max([len(onward) for onward in web_of(Plan(tupled(house))).onward])


def forks(house):
    """At how many STATES more than one task is ready."""
    return len([onward for onward in web_of(Plan(tupled(house))).onward if len(onward) > 1])


def shortest(house):
    """How many turns a whole run has at the least."""
    return min(lengths(web_of(Plan(tupled(house)))))


def longest(house):
    """How many turns a whole run has at the most."""
    return max(lengths(web_of(Plan(tupled(house)))))


def sure_turns(house):
    """The numbers of turns that each whole run has, and behind which all runs are at one STATE."""
    web = web_of(Plan(tupled(house)))
    return tuple([many for many in range(min(lengths(web)) + 1) if web.turns.count(many) == 1])


def ends_told(house):
    """The ascending list of the ends."""
    return sorted(ends_of(web_of(Plan(tupled(house)))))


def how_many_tell(house, state):
    """How many whole runs have this end."""
    web = web_of(Plan(tupled(house)))
    at = end_place(web, state)
    return numbers_of_runs(web)[at] if at is not None else 0


def share(house, state):
    """How many whole runs have this end, by how many there are."""
    return fraction(how_many_tell(house, state), how_many_runs(house))


def chance(house, state):
    """The chances with which a whole run has this end, if each ready task is as likely to be taken."""
    web = web_of(Plan(tupled(house)))
    at = end_place(web, state)
    if at is None:
        return (0, 1)
    chances = [(1, 1)] + [(0, 1)] * (len(web.rows) - 1)
    for place, onward in enumerate(web.onward):
        top, bottom = chances[place]
        for task, to in onward:
            chances[to] = sum_of(chances[to], (top, bottom * len(onward)))
    return chances[at]


def classes(house):
    """The least run of each class and how many runs are in it, ascending."""
    web = web_of(Plan(tupled(house)))
    found = {}
    told = []
    for run in whole_runs(web):
        if run not in found:
            lot = class_of(web, run)
            told.append((run, len(lot)))
            for other in lot:
                found[other] = True
    return told


def least_run(house, state):
    """Of the runs behind which this STATE is, the least, None if there is none."""
    web = web_of(Plan(tupled(house)))
    at = web.at.get(tupled(state))
    return least_runs(web)[at] if at is not None else None


def least_beginning(house, state):
    """Of the shortest runs behind which this surely is the end the least, None if it is no end."""
    web = web_of(Plan(tupled(house)))
    end = end_place(web, state)
    if end is None:
        return None
    sole = sole_ends(web)
    runs = least_runs(web)
    return min([runs[at] for at in range(len(runs)) if sole[at] == end], key=lambda run: (len(run), run))


def ends_left(house, choices):
    """The ascending list of the ends that can still come behind this run."""
    plan = Plan(tupled(house))
    return sorted(ends_of(web_from(plan, played(plan, choices)[-1])))


def fewest_changed(house, choices, state):
    """At how few places a whole run with this end is unlike this whole run, None if it is no end."""
    run = changed_run(house, choices, state)
    return how_unlike(tupled(choices), run) if run is not None else None


def changed_run(house, choices, state):
    """Of the whole runs with this end that are unlike this one at the fewest places the least, None likewise."""
    plan = Plan(tupled(house))
    told_by(plan, choices)
    web = web_of(plan)
    end = end_place(web, state)
    if end is None:
        return None
    # Of two runs to one STATE both go on in the same ways: the better one, the lesser one of equal ones, stays.
    best = [(0, ())] + [None] * (len(web.rows) - 1)
    for at, onward in enumerate(web.onward):
        for task, to in onward:
            many, run = best[at]
            other = (many + how_unlike(tuple(choices[len(run):len(run) + 1]), (task,)), (*run, task))
            if best[to] is None or other < best[to]:
                best[to] = other
    return best[end][1]


def is_changed_run(house, choices, state, thing):
    """Whether thing is one of the whole runs with this end that are unlike this one at the fewest places."""
    fewest = fewest_changed(house, choices, state)
    found = state_if_whole(Plan(tupled(house)), thing)
    if fewest is None or found is None or found != tupled(state):
        return False
    return how_unlike(tupled(choices), thing) == fewest


def how_many_with(house, mark):
    """In how many whole runs this STEP is taken."""
    plan = Plan(tupled(house))
    check_marks(plan, (mark,))
    web = web_of(plan)
    many = numbers_of_runs(web)
    return sum([many[at] for at in end_places(web) if is_taken(plan, web.rows[at], mark)])


def turns_of(house, mark):
    """The least and the greatest number of turns ahead of this STEP, None if no whole run takes it."""
    plan = Plan(tupled(house))
    check_marks(plan, (mark,))
    web = web_of(plan)
    numbers = [web.turns[at] for at, to in turns_taking(web, mark)]
    return (min(numbers), max(numbers)) if numbers else None


def how_many_ahead(house, one, other):
    """In how many whole runs both STEPS are taken, one ahead of the other."""
    plan = Plan(tupled(house))
    check_marks(plan, (one, other))
    web = web_of(plan)
    behind = numbers_of_runs(web)
    on = numbers_on(web)
    return sum([behind[at] * on[to] for at, to in turns_taking(web, other) if is_taken(plan, web.rows[at], one)])


def end_place(web, state):
    """The place of this STATE, if it is an end; otherwise None."""
    at = web.at.get(tupled(state))
    return at if at is not None and web.onward[at] == [] else None


def lengths(web):
    """How many turns the runs to the ends have."""
    return [web.turns[at] for at in end_places(web)]


def fraction(top, bottom):
    """The FRACTION in least terms."""
    common = gcd(top, bottom)
    return (top // common, bottom // common)


def sum_of(one, other):
    """The FRACTION that both make together."""
    return fraction(one[0] * other[1] + other[0] * one[1], one[1] * other[1])


def how_unlike(run, other):
    """At how many places these CHOICES are unlike."""
    both = len([at for at in range(min(len(run), len(other))) if run[at] != other[at]])
    return both + abs(len(run) - len(other))


def whole_runs(web):
    """The ascending list of the whole runs."""
    told = []
    waiting = [((), 0)]
    while waiting:
        run, at = waiting.pop()
        if web.onward[at] == []:
            told.append(run)
        waiting.extend([((*run, task), to) for task, to in web.onward[at][::-1]])
    return told


def class_of(web, run):
    """The whole runs that are alike to this one, itself first."""
    found = {run: True}
    waiting = [run]
    while waiting:
        one = waiting.pop()
        for other in swapped_runs(web, one):
            if other not in found:
                found[other] = True
                waiting.append(other)
    return list(found)


def swapped_runs(web, run):
    """The runs that come from this one by one swap."""
    row = [0]
    for task in run:
        row.append(dict(web.onward[row[-1]])[task])
    told = []
    for at in range(len(run) - 1):
        first = dict(web.onward[row[at]]).get(run[at + 1])
        if run[at] != run[at + 1] and first is not None:
            if dict(web.onward[first]).get(run[at]) == row[at + 2]:
                told.append(run[:at] + (run[at + 1], run[at]) + run[at + 2:])
    return told
