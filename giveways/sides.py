"""HOUSES side by side, and changed: names, gives, tasks left out, signals put in that mend."""

from math import comb

from giveways.bonds import heeded, heeders_of, side_with
from giveways.checks import check_marks, check_task, check_tasks
from giveways.clash import clashing_steps
from giveways.errors import Known, NoGroup, NoQueue, NoSignal, NoStep, NotWhole, NoTask, Unfit
from giveways.plans import Plan
from giveways.play import ready_tasks
from giveways.retold import counted_anew, retold
from giveways.runs import played
from giveways.scripts import queue_names, signal_names, task_names
from giveways.shapes import tupled
from giveways.steps import CLOSING_WORDS, QUEUE_WORDS, SIGNAL_WORDS, TASK_WORDS, naming_marks
from giveways.webs import ends_of_plan
from giveways.woven import new_signals, own_diaries, woven_rows

GIVE = ("give",)
KINDS = ("task", "queue", "signal", "group")
MOST_ORDERS = 3


def beside(house, other):
    """Both HOUSES side by side, as one."""
    first, second = tupled(house), tupled(other)
    for kind in KINDS:
        others = names_of_kind(second, kind)
        for name in names_of_kind(first, kind):
            if name in others:
                raise Known(name)
    return tuple([tuple(sorted(first[part] + second[part])) for part in range(3)])


def sides(house):
    """The set of the sides of the HOUSE."""
    plan = Plan(tupled(house))
    return tuple(sorted({side_with(plan, task) for task in plan.tasks}))


def side_of(house, task):
    """The HOUSE of the tasks of the side of this task alone."""
    plan = Plan(tupled(house))
    check_task(plan, task)
    names = side_with(plan, task)
    tasks, groups, rooms = tupled(house)
    own = tuple([row for row in tasks if row[0] in names])
    queues = [name for name, mark in naming_marks(own, QUEUE_WORDS)]
    return (
        own,
        tuple([pair for pair in groups if pair[1] in names]),
        tuple([pair for pair in rooms if pair[0] in queues]),
    )


def beats(house, choices):
    """The pairs of a moment and of how many of these turns are taken while the clock is at it."""
    plan = Plan(tupled(house))
    turns = turns_by_moment(played(plan, choices))
    return tuple([(moment, turns[moment]) for moment in sorted(turns)])


def unwoven(house, choices):
    """For each side its turns among choices."""
    played(Plan(tupled(house)), choices)
    return tuple([tuple([task for task in choices if task in side]) for side in sides(house)])


def weavings(house, other, choices, others):
    """In how many RUNS of both side by side these two whole runs are the turns of the one and of the other."""
    first, second = Plan(tupled(house)), Plan(tupled(other))
    check_tasks(first, choices)
    check_tasks(second, others)
    row = played(first, choices)
    far = played(second, others)
    if ready_tasks(first, row[-1]) != () or ready_tasks(second, far[-1]) != ():
        raise NotWhole()
    beside(house, other)
    turns, far_turns = turns_by_moment(row), turns_by_moment(far)
    ways = 1
    for moment in turns:
        ways = ways * comb(turns[moment] + far_turns.get(moment, 0), turns[moment])
    return ways


def renamed(house, kind, pairs):
    """The HOUSE with these new names of this kind."""
    check_renamed(house, kind, pairs)
    news = {old: new for old, new in pairs}
    own, queued, grouped = [news if kind == word else {} for word in ("task", "queue", "group")]
    tasks, groups, rooms = tupled(house)
    words = words_of_kind(kind)
    rows = [(own.get(task, task), grouped.get(group, group), renamed_steps(steps, words, news))
            for task, group, steps in tasks]
    return (
        tuple(sorted(rows)),
        tuple(sorted([(grouped.get(group, group), own.get(host, host)) for group, host in groups])),
        tuple(sorted([(queued.get(queue, queue), room) for queue, room in rooms])),
    )


def renamed_state(house, kind, pairs, state):
    """The STATE by these new names."""
    check_renamed(house, kind, pairs)
    news = {old: new for old, new in pairs}
    own, queued, signed = [news if kind == word else {} for word in ("task", "queue", "signal")]
    marks = {
        (row[0], number): (own.get(row[0], row[0]), number)
        for row in house[0]
        for number in range(len(row[2]) + 1)
    }
    clock, stands, lanes, signs = retold(tupled(state), marks)
    return (
        clock,
        stands,
        tuple(sorted([(queued.get(row[0], row[0]), *row[1:]) for row in lanes])),
        tuple(sorted([(signed.get(row[0], row[0]), *row[1:]) for row in signs])),
    )


def with_gives(house, task, number, many):
    """The HOUSE with so many gives more, right ahead of the STEP with this number, or behind all."""
    plan = Plan(tupled(house))
    check_task(plan, task)
    steps = plan.scripts[task]
    if not 0 <= number <= len(steps):
        raise NoStep(number)
    return with_scripts(house, {task: steps[:number] + (GIVE,) * many + steps[number:]})


def without_gives(house):
    """The HOUSE without its spare gives."""
    plan = Plan(tupled(house))
    return with_scripts(house, {
        task: tuple([step for step, is_kept in zip(plan.scripts[task], needed_steps(plan, task)) if is_kept])
        for task in plan.tasks
    })


def state_without_gives(house, state):
    """The STATE, STEPS counted without the spare gives."""
    plan = Plan(tupled(house))
    return retold(tupled(state), counted_anew({task: needed_steps(plan, task) for task in plan.tasks}))


def heeds(house, task):
    """The set of the tasks that this one heeds."""
    plan = Plan(tupled(house))
    check_task(plan, task)
    return heeded(plan, task)


def heeders(house, task):
    """The least set with this task, and with all that heed one of the set."""
    plan = Plan(tupled(house))
    check_task(plan, task)
    return heeders_of(plan, task)


def without_tasks(house, some):
    """The HOUSE without these tasks, whom nobody else heeds."""
    plan = Plan(tupled(house))
    check_tasks(plan, some)
    others = [task for task in plan.tasks if task not in some]
    if others == [] or any([name in some for task in others for name in heeded(plan, task)]):
        raise Unfit()
    tasks, groups, rooms = tupled(house)
    gone = [row for row in tasks if row[0] in some]
    queues = [name for name, mark in naming_marks(gone, QUEUE_WORDS)]
    return (
        tuple([(row[0], row[1], steps_without(row[2], some)) for row in tasks if row[0] not in some]),
        tuple([pair for pair in groups if pair[1] not in some]),
        tuple([pair for pair in rooms if pair[0] not in queues]),
    )


def state_without_tasks(house, some, state):
    """What the STATE tells of the other tasks, and the clock."""
    other = without_tasks(house, some)
    clock, stands, lanes, signs = tupled(state)
    queues, signals = queue_names(other), signal_names(other)
    return (
        clock,
        tuple([row for row in stands if row[0] not in some]),
        tuple([row for row in lanes if row[0] in queues]),
        tuple([row for row in signs if row[0] in signals]),
    )


def with_orders(house, pairs):
    """The HOUSE in which, for each pair, a new signal set behind the first STEP is heard ahead of the second one."""
    check_orders(house, pairs)
    rows = woven_rows(tupled(house), tupled(pairs))
    return with_scripts(house, {task: tuple([step for step, is_own in rows[task]]) for task in rows})


def state_without_orders(house, pairs, state):
    """The STATE without the signals, STEPS and ENTRIES that with_orders puts in."""
    plan = Plan(with_orders(house, pairs))
    rows = woven_rows(tupled(house), tupled(pairs))
    kept = {task: [is_own for step, is_own in rows[task]] for task in rows}
    clock, stands, lanes, signs = retold(own_diaries(plan, tupled(state), kept), counted_anew(kept))
    added = new_signals(tupled(house), len(pairs))
    return (clock, stands, lanes, tuple([row for row in signs if row[0] not in added]))


def mends(house, pairs):
    """Whether with_orders tells the same FOR ALL orders, and that is what the HOUSE can tell."""
    ends = ends_of_plan(Plan(with_orders(house, pairs)))
    if len(ends) > 1:
        return False
    return state_without_orders(house, pairs, ends[0]) in ends_of_plan(Plan(tupled(house)))


def fewest_orders(house):
    """Of the tuples of the fewest pairs of clashing STEPS, either way about, that mend the least; None if none does."""
    ways = sorted([way for pair in clashing_steps(house) for way in (pair, pair[::-1])])
    rows = [()]
    for _ in range(MOST_ORDERS + 1):
        for row in rows:
            if mends(house, row):
                return row
        rows = [(*row, way) for row in rows for way in ways if can_follow(row, way)]
    return None


def names_of_kind(house, kind):
    """The set of the names of this kind."""
    if kind == "task":
        return task_names(house)
    if kind == "queue":
        return queue_names(house)
    return signal_names(house) if kind == "signal" else tuple([pair[0] for pair in house[1]])


def words_of_kind(kind):
    """The words of the STEPS that name something of this kind."""
    if kind == "task":
        return TASK_WORDS
    if kind == "queue":
        return QUEUE_WORDS
    return SIGNAL_WORDS if kind == "signal" else CLOSING_WORDS


def check_renamed(house, kind, pairs):
    """Refuse the first old name that there is not, then the first new one that would stand for two."""
    names = names_of_kind(house, kind)
    for old, _ in pairs:
        if old not in names:
            refuse_name(kind, old)
    news = {old: new for old, new in pairs}
    later = [news.get(name, name) for name in names]
    for _, new in pairs:
        if later.count(new) > 1:
            raise Known(new)


def refuse_name(kind, name):
    """Refuse a name that nothing of this kind has."""
    if kind == "task":
        raise NoTask(name)
    if kind == "queue":
        raise NoQueue(name)
    if kind == "signal":
        raise NoSignal(name)
    raise NoGroup(name)


def renamed_steps(steps, words, news):
    """The STEPS, those of these words with the new names."""
    return tuple([
        (step[0], news.get(step[1], step[1]), *step[2:]) if step[0] in words else step
        for step in steps
    ])


def turns_by_moment(row):
    """For each moment at which turns are taken how many; row has the STATES behind no turn, one, and so on."""
    turns = {}
    for state in row[:-1]:
        turns[state[0]] = turns.get(state[0], 0) + 1
    return turns


def with_scripts(house, scripts):
    """The HOUSE with these SCRIPTS for these tasks."""
    tasks, groups, rooms = tupled(house)
    return (tuple([(row[0], row[1], scripts.get(row[0], row[2])) for row in tasks]), groups, rooms)


def needed_steps(plan, task):
    """For each STEP of this task whether it is no spare give."""
    steps = plan.scripts[task]
    others = [number for number, step in enumerate(steps) if step != GIVE]
    last = max(others, default=-1)
    return [step != GIVE or number > last for number, step in enumerate(steps)]


def steps_without(steps, some):
    """The STEPS, each one that starts or cancels one of these tasks being a give."""
    return tuple([GIVE if step[0] in ("start", "cancel") and step[1] in some else step for step in steps])


def check_orders(house, pairs):
    """Refuse what is no MARK, and pairs of which both are of one task."""
    check_marks(Plan(tupled(house)), [mark for pair in pairs for mark in pair])
    if any([pair[0][0] == pair[1][0] for pair in pairs]):
        raise Unfit()


def can_follow(row, way):
    """Whether this pair may stand behind these, ascending, none both ways."""
    return row == () or (way > row[-1] and way[::-1] not in row)
