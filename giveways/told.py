"""Told back: which run it was, by what is told, by some accounts of it, or by what some tasks tell."""

from giveways.checks import check_marks, check_task, check_tasks
from giveways.diaries import is_taken, next_mark, row_at
from giveways.errors import Unfit
from giveways.orders import end_place
from giveways.plans import Plan
from giveways.play import NUMBER
from giveways.routes import leading, least_of_classes, run_through, turns_ahead, turns_without
from giveways.runs import state_if_whole
from giveways.shapes import is_just, tupled
from giveways.ties import numbered
from giveways.webs import end_places, ends_of_plan, least_runs, web_of


def is_end(house, thing):
    """Whether thing is an end."""
    return any([is_just(thing, state) for state in ends_of_plan(Plan(tupled(house)))])


def ends_with(house, accounts):
    """The ascending list of the ends that have these accounts."""
    plan = Plan(tupled(house))
    check_accounts(plan, accounts)
    web = web_of(plan)
    return sorted([web.rows[at] for at in places_with(web, accounts)])


def run_telling(house, state):
    """A whole run with this end."""
    web = web_of(Plan(tupled(house)))
    return least_runs(web)[sure_end_place(web, state)]


def is_run_telling(house, state, thing):
    """Whether thing is a whole run with this end."""
    plan = Plan(tupled(house))
    sure_end_place(web_of(plan), state)
    return state_if_whole(plan, thing) == tupled(state)


def classes_telling(house, state):
    """The ascending list of the classes with this end, each told by its least run."""
    web = web_of(Plan(tupled(house)))
    return least_of_classes(web, sure_end_place(web, state))


def always_ahead(house, state):
    """The pairs of MARKS of which in each whole run with this end the turn of the one is ahead of the other."""
    plan = Plan(tupled(house))
    web = web_of(plan)
    leads = leading(web, [sure_end_place(web, state)])
    least = {}
    for at, onward in enumerate(web.onward):
        taken = [row_at(plan, web.rows[at], name)[NUMBER] for name in plan.tasks]
        for task in [name for name, to in onward if leads[to]]:
            mark = next_mark(plan, web.rows[at], task)
            least[mark] = [min(pair) for pair in zip(least.get(mark, taken), taken)]
    return tuple(sorted([
        ((name, number), mark)
        for mark in least
        for name, many in zip(plan.tasks, least[mark])
        for number in range(many)
    ]))


def run_ahead(house, state, one, other):
    """A whole run with this end in which the STEP one comes ahead of other, None if there is none."""
    plan = Plan(tupled(house))
    check_marks(plan, (one, other))
    web = web_of(plan)
    leads = leading(web, [taking_end(web, state, one, other)])
    return run_through(web, leads, one[0], turns_without(web, leads, other, one))


def is_run_ahead(house, state, one, other, thing):
    """Whether thing is a whole run with this end in which the STEP one comes ahead of other."""
    plan = Plan(tupled(house))
    check_marks(plan, (one, other))
    taking_end(web_of(plan), state, one, other)
    if state_if_whole(plan, thing) != tupled(state):
        return False
    taken = numbered(thing)
    return taken.index(tupled(one)) < taken.index(tupled(other))


def accounts_of(house, task):
    """The ascending list of the accounts that this task has at the ends."""
    plan = Plan(tupled(house))
    check_task(plan, task)
    return sorted({row_at(plan, state, task) for state in ends_of_plan(plan)})


def sure_account(house, accounts, task):
    """The account of this task at all ends that have these accounts, None if they are unlike."""
    plan = Plan(tupled(house))
    check_accounts(plan, accounts)
    check_task(plan, task)
    web = web_of(plan)
    own = sorted({row_at(plan, web.rows[at], task) for at in some_places_with(web, accounts)})
    return own[0] if len(own) == 1 else None


def was_taken(house, accounts, mark):
    """Whether this STEP is taken at the ends that have these accounts: "yes", "no" or "maybe"."""
    plan = Plan(tupled(house))
    check_accounts(plan, accounts)
    check_marks(plan, (mark,))
    web = web_of(plan)
    taken = [is_taken(plan, web.rows[at], mark) for at in some_places_with(web, accounts)]
    if all(taken):
        return "yes"
    return "maybe" if any(taken) else "no"


def order_by(house, accounts, one, other):
    """Whether one comes ahead of other in the whole runs that have these accounts and both STEPS."""
    plan = Plan(tupled(house))
    check_accounts(plan, accounts)
    check_marks(plan, (one, other))
    web = web_of(plan)
    places = some_places_with(web, accounts)
    if tupled(one) == tupled(other):
        raise Unfit()
    leads = leading(web, places)
    ahead = turns_ahead(web, leads, one, other) != []
    behind = turns_ahead(web, leads, other, one) != []
    if ahead and behind:
        return "either"
    if ahead:
        return "ahead"
    return "behind" if behind else "none"


def telling_tasks(house):
    """The sets of tasks, no part of which does it, by whose accounts the end is known, ascending."""
    plan = Plan(tupled(house))
    ends = ends_of_plan(plan)
    told = []
    for names in sorted(parts_of(plan.tasks), key=len):
        if not any([holds(names, less) for less in told]) and are_known_by(plan, ends, names):
            told.append(names)
    return sorted(told)


def fewest_telling(house):
    """Of the sets of telling tasks the least one of those with the fewest tasks, None if there are none."""
    return min(telling_tasks(house), key=lambda names: (len(names), names), default=None)


def unlike_by(house, tasks):
    """Two unlike ends at which all these tasks have the same accounts, ascending; None if there are none."""
    plan = Plan(tupled(house))
    check_tasks(plan, tasks)
    found = {}
    for state in sorted(ends_of_plan(plan)):
        own = accounts_at(plan, state, tasks)
        if own in found:
            return (found[own], state)
        found[own] = state
    return None


def is_unlike_by(house, tasks, thing):
    """Whether thing is an ascending tuple of two ends at which all these tasks have the same accounts."""
    plan = Plan(tupled(house))
    check_tasks(plan, tasks)
    ends = ends_of_plan(plan)
    if not isinstance(thing, tuple) or len(thing) != 2:
        return False
    if not all([any([is_just(part, state) for state in ends]) for part in thing]):
        return False
    return thing[0] < thing[1] and accounts_at(plan, thing[0], tasks) == accounts_at(plan, thing[1], tasks)


def check_accounts(plan, accounts):
    """Refuse the first account of nobody."""
    check_tasks(plan, [account[0] for account in accounts])


def sure_end_place(web, state):
    """The place of this STATE, which must be an end."""
    at = end_place(web, state)
    if at is None:
        raise Unfit()
    return at


def taking_end(web, state, one, other):
    """The place of this end, at which both STEPS, unlike ones, must be taken."""
    at = sure_end_place(web, state)
    is_both = is_taken(web.plan, web.rows[at], one) and is_taken(web.plan, web.rows[at], other)
    if tupled(one) == tupled(other) or not is_both:
        raise Unfit()
    return at


def places_with(web, accounts):
    """The places of the ends that have these accounts."""
    own = tupled(accounts)
    return [at for at in end_places(web) if all([account in web.rows[at][1] for account in own])]


def some_places_with(web, accounts):
    """The places of the ends that have these accounts, of which there must be one."""
    places = places_with(web, accounts)
    if places == []:
        raise Unfit()
    return places


def accounts_at(plan, state, tasks):
    """The accounts of these tasks."""
    return tuple([row_at(plan, state, task) for task in tasks])


def are_known_by(plan, ends, names):
    """Whether any two of these ends are unlike in the account of one of these tasks."""
    return len({accounts_at(plan, state, names) for state in ends}) == len(ends)


def parts_of(names):
    """All sets of these names."""
    parts = [()]
    for name in names:
        parts = parts + [(*part, name) for part in parts]
    return parts


def holds(names, less):
    """Whether all of the less ones are among these names."""
    return all([name in names for name in less])
