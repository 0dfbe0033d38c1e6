"""Clashes: which tasks clash where, whether what is told is the same FOR ALL orders, and papers against it."""

from giveways.checks import check_marks, check_places, check_task, check_tasks
from giveways.diaries import next_mark
from giveways.errors import Unfit
from giveways.papers import clashes_at, papers_against
from giveways.plans import Plan
from giveways.play import beginning, ready_tasks
from giveways.runs import check_ready, played, state_if_whole, told_by, turns_by
from giveways.shapes import is_just, tupled
from giveways.ties import clash_at, needs_by_place, ways_at
from giveways.webs import end_places, least_runs, web_from, web_of


def do_clash(house, choices, one, other):
    """Whether these two clash behind choices."""
    ways = both_ways(house, choices, one, other)
    return None in ways or ways[0] != ways[1]


def clashes(house, choices):
    """The pairs of ready tasks that clash behind choices."""
    plan = Plan(tupled(house))
    return clashes_at(plan, played(plan, choices)[-1])


def shut_by(house, choices, task):
    """The set of the ready tasks that are not ready any more behind the turn of this one."""
    plan = Plan(tupled(house))
    check_task(plan, task)
    state = played(plan, choices)[-1]
    check_ready(plan, state, task)
    others = [name for name in ready_tasks(plan, state) if name != task]
    return tuple([name for name in others if ways_at(plan, state, task, name)[0] is None])


def both_ways(house, choices, one, other):
    """The STATES behind the turns of both, in both orders; None where the second one is not ready then."""
    plan = Plan(tupled(house))
    check_tasks(plan, (one, other))
    state = played(plan, choices)[-1]
    check_ready(plan, state, one)
    check_ready(plan, state, other)
    if one == other:
        raise Unfit()
    return ways_at(plan, state, one, other)


def parted(state, later):
    """The sets of the tasks, the queues and the signals that stand otherwise in these two STATES."""
    return tuple([unlike_rows(tupled(state[part]), tupled(later[part])) for part in (1, 2, 3)])


def rivals(house, choices, number):
    """The set of the tasks that clash with the one that takes the turn at this place, ahead of it."""
    plan = Plan(tupled(house))
    row = played(plan, choices)
    check_places(choices, (number,))
    return rivals_at(plan, row[number], choices[number])


def turning_places(house, choices):
    """The set of the places with rivals."""
    plan = Plan(tupled(house))
    row = played(plan, choices)
    return tuple([at for at, task in enumerate(choices) if rivals_at(plan, row[at], task) != ()])


def is_same(house):
    """Whether what the HOUSE tells is the same FOR ALL orders."""
    return has_one_end(web_of(Plan(tupled(house))))


def is_calm(house, choices):
    """Whether there is no CLASH PAPER against this whole run."""
    return clash_paper(house, choices) is None


def clash_paper(house, choices):
    """A CLASH PAPER against this whole run, None if there is none."""
    plan = Plan(tupled(house))
    told_by(plan, choices)
    papers = papers_against(plan, choices)
    return papers[0] if papers else None


def is_clash_paper(house, choices, thing):
    """Whether thing is a CLASH PAPER against this whole run."""
    plan = Plan(tupled(house))
    told_by(plan, choices)
    return any([is_just(thing, paper) for paper in papers_against(plan, choices)])


def least_clash(house, choices):
    """Of the CLASH PAPERS whose part has the fewest turns the least, None if there are none."""
    plan = Plan(tupled(house))
    told_by(plan, choices)
    papers = papers_against(plan, choices)
    return min(papers, key=lambda paper: (len(paper[0]), paper)) if papers else None


def two_runs(house, choices, part, one, other):
    """The whole runs that go on from the part with these two in the one order, and in the other."""
    plan = Plan(tupled(house))
    check_tasks(plan, (one, other))
    told_by(plan, choices)
    if (tupled(part), one, other) not in papers_against(plan, choices):
        raise Unfit()
    front = tuple([choices[place] for place in part])
    return (whole_with(plan, front, (one, other)), whole_with(plan, front, (other, one)))


def against(house):
    """Two whole runs that tell otherwise, None if there are none."""
    web = web_of(Plan(tupled(house)))
    places = end_places(web)
    if len(places) == 1:
        return None
    runs = least_runs(web)
    return (runs[places[0]], runs[places[1]])


def is_against(house, thing):
    """Whether thing is a pair of whole runs that tell otherwise."""
    plan = Plan(tupled(house))
    if not isinstance(thing, tuple) or len(thing) != 2:
        return False
    one, other = [state_if_whole(plan, run) for run in thing]
    return one is not None and other is not None and one != other


def same_paper(house):
    """A whole run and what each of its turns needs, None if not all whole runs tell the same."""
    plan = Plan(tupled(house))
    if not has_one_end(web_of(plan)):
        return None
    run = turns_by(plan, beginning(plan), plan.tasks)
    return (run, tuple(needs_by_place(plan, played(plan, run), run)))


def is_same_paper(house, thing):
    """Whether thing is a whole run and what each of its turns needs, and no CLASH PAPER is against it."""
    plan = Plan(tupled(house))
    if not isinstance(thing, tuple) or len(thing) != 2 or state_if_whole(plan, thing[0]) is None:
        return False
    told = tuple(needs_by_place(plan, played(plan, thing[0]), thing[0]))
    return is_just(thing[1], told) and papers_against(plan, thing[0]) == []


def clashing_steps(house):
    """The pairs of MARKS that are next STEPS of ready tasks that clash, behind some RUN."""
    plan = Plan(tupled(house))
    pairs = {pair: True for state in web_of(plan).rows for pair in mark_pairs_at(plan, state)}
    return tuple(sorted(pairs))


def clash_run(house, mark, far):
    """Of the shortest RUNS behind which these are next STEPS that clash the least, None if there are none."""
    plan = Plan(tupled(house))
    check_marks(plan, (mark, far))
    pair = tuple(sorted([tupled(mark), tupled(far)]))
    web = web_of(plan)
    places = [at for at, state in enumerate(web.rows) if pair in mark_pairs_at(plan, state)]
    if places == []:
        return None
    runs = least_runs(web)
    return min([runs[at] for at in places], key=lambda run: (len(run), run))


def is_decided(house, choices):
    """Whether all whole runs that begin with choices tell the same."""
    plan = Plan(tupled(house))
    return has_one_end(web_from(plan, played(plan, choices)[-1]))


def decided_at(house, choices):
    """The least number of turns of choices behind which all whole runs tell the same, None if there is none."""
    plan = Plan(tupled(house))
    for many, state in enumerate(played(plan, choices)):
        if has_one_end(web_from(plan, state)):
            return many
    return None


def unlike_rows(rows, others):
    """The names of the rows that stand otherwise in the one than in the other STATE."""
    return tuple([row[0] for row, other in zip(rows, others) if row != other])


def has_one_end(web):
    """Whether all whole runs come to one STATE."""
    return len(end_places(web)) == 1


def mark_pairs_at(plan, state):
    """The pairs of MARKS of the next STEPS of the ready tasks that clash at this STATE."""
    return [(next_mark(plan, state, one), next_mark(plan, state, other)) for one, other in clashes_at(plan, state)]


def rivals_at(plan, state, task):
    """The set of the ready tasks that clash with this one at this STATE."""
    others = [name for name in ready_tasks(plan, state) if name != task]
    return tuple([name for name in others if clash_at(plan, state, task, name)])


def whole_with(plan, front, pair):
    """The whole run that begins so, goes on with these two, the second one if it is ready, then with the least."""
    state = played(plan, front + pair[:1])[-1]
    run = front + pair if pair[1] in ready_tasks(plan, state) else front + pair[:1]
    return run + turns_by(plan, played(plan, run)[-1], plan.tasks)
