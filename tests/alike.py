"""All RUNS that come from a RUN by swaps, taken one by one, and what follows from them."""

from tests.plain import played
from tests.walked import walked

WALKED = []


def marks_of(run):
    return [(task, run[:at].count(task)) for at, task in enumerate(run)]


def state_of(house, run, known):
    """The STATE behind a RUN by the test's own turns, None if it is none; known keeps what was asked."""
    if run not in known:
        try:
            known[run] = played(house, run).state()
        except AssertionError:
            known[run] = None
    return known[run]


def swaps_of(house, run, known):
    """The places of the first ones of two neighbours that a swap takes."""
    told = []
    for at in range(len(run) - 1):
        other = run[:at] + (run[at + 1], run[at]) + run[at + 2:]
        if run[at] != run[at + 1] and state_of(house, other, known) == state_of(house, run, known):
            told.append(at)
    return tuple(told)


def swapped_at(run, at):
    return run[:at] + (run[at + 1], run[at]) + run[at + 2:]


def distances(house, run, known, limit=10 ** 6):
    """How many swaps lead from the run to each alike one; None if there are more than so many."""
    far = {run: 0}
    rows = [run]
    for one in rows:
        for at in swaps_of(house, one, known):
            other = swapped_at(one, at)
            if other not in far:
                far[other] = far[one] + 1
                rows.append(other)
        if len(rows) > limit:
            return None
    return far


def needs_of(run, alike):
    """For each place the places that stand ahead of it in all alike runs, the turns told by their MARKS."""
    orders = [{mark: at for at, mark in enumerate(marks_of(other))} for other in alike]
    marks = marks_of(run)
    return [tuple(place for place in range(last) if all(order[marks[place]] < order[marks[last]] for order in orders))
            for last in range(len(run))]


def parts_of(needs):
    """All sets of places that have, with each place, all that it needs."""
    parts = [()]
    for place in range(len(needs)):
        parts += [part + (place,) for part in parts if set(needs[place]) <= set(part)]
    return parts


def walked_runs(limit=3):
    """So many RUNS of each small house, with all alike RUNS and how far they are."""
    if not WALKED:
        for house, plays, wholes in walked():
            known = {tuple(play.turns): play.state() for play in plays}
            runs = [tuple(play.turns) for play in wholes[:1] + wholes[len(wholes) // 2:][:1] + wholes[-1:]]
            runs += [run[:len(run) * 2 // 3] for run in runs[-1:]]
            WALKED.append([(house, run, known, distances(house, run, known)) for run in dict.fromkeys(runs)])
    return [row for rows in WALKED for row in rows[:limit]]
