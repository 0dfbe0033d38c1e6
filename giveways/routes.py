"""Runs through the STATES of a small HOUSE to some of its ends, and the classes of these runs."""

from giveways.diaries import is_taken
from giveways.webs import least_runs, turns_taking


def leading(web, ends):
    """For each STATE whether it is one of these ends or turns lead from it to one; ends tells places."""
    leads = [False] * len(web.rows)
    for at in reversed(range(len(web.rows))):
        leads[at] = at in ends or any([leads[to] for task, to in web.onward[at]])
    return leads


def turns_leading(web, leads, mark):
    """The pairs of places of the turns that take this STEP and lead on."""
    return [pair for pair in turns_taking(web, mark) if leads[pair[1]]]


def turns_ahead(web, leads, one, other):
    """The pairs of places of the turns that take other, lead on, and have the STEP one behind them."""
    return [pair for pair in turns_leading(web, leads, other) if is_taken(web.plan, web.rows[pair[0]], one)]


def turns_without(web, leads, one, other):
    """The pairs of places of the turns that take other, lead on, and do not have the STEP one behind them."""
    return [pair for pair in turns_leading(web, leads, other) if not is_taken(web.plan, web.rows[pair[0]], one)]


def run_through(web, leads, task, pairs):
    """A whole run by the first of these turns of the task, on to an end to which it leads; None if there are none."""
    if pairs == []:
        return None
    at, to = pairs[0]
    run = [*least_runs(web)[at], task]
    while web.onward[to]:
        name, to = [pair for pair in web.onward[to] if leads[pair[1]]][0]
        run.append(name)
    return tuple(run)


def least_of_classes(web, end):
    """Of each class of the whole runs to the end at this place the least run, ascending."""
    leads = leading(web, [end])
    onward = [dict(row) for row in web.onward]
    told = []
    waiting = [((), (0,), ())]
    while waiting:
        run, row, needs = waiting.pop()
        if row[-1] == end:
            told.append(run)
        for task in onward[row[-1]]:
            to = onward[row[-1]][task]
            lot = needs_of_next(onward, run, row, needs, task) if leads[to] else ()
            # A run that is not the least of its class goes on to none that is.
            if leads[to] and is_least_so(run, task, lot):
                waiting.append(((*run, task), (*row, to), (*needs, lot)))
    return sorted(told)


def needs_of_next(onward, run, row, needs, task):
    """The places of the turns that the next turn, of this task, needs; row has the places of STATES, needs the rest."""
    found = []
    for place in reversed(range(len(run))):
        is_behind = [place in needs[other] for other in found]
        if any(is_behind) or not passes(onward, row[place], [run[at] for at in (place, *found)], task):
            found = [place, *found]
    return tuple(found)


def passes(onward, at, names, task):
    """Whether the first of these turns can come behind the others and, by a swap, behind that of the task."""
    for name in names[1:]:
        at = onward[at][name]
    if names[0] == task or task not in onward[at]:
        return False
    between, other = onward[onward[at][names[0]]], onward[onward[at][task]]
    return names[0] in other and other[names[0]] == between[task]


def is_least_so(run, task, lot):
    """Whether the least run of a class is that still with a turn of this task more, which needs these places."""
    first = lot[-1] + 1 if lot else 0
    return all([name <= task for name in run[first:]])
