"""Lanes and the clock: who waits for what, who got, set and heard what, what can and what surely comes."""

from giveways.checks import check_queue, check_signal, check_task, check_word
from giveways.diaries import entry_of, is_over_at, noted
from giveways.errors import Unfit
from giveways.plans import Plan
from giveways.play import Scene, is_ready, step_ahead
from giveways.runs import played, state_if_run, state_if_whole
from giveways.scripts import with_room
from giveways.shapes import tupled
from giveways.steps import CLOSING_WORDS, TIMED_WORDS, naming_marks, time_of
from giveways.webs import end_places, ends_of_plan, first_run, least_runs, web_of

WAITS = {"put": "room", "get": "item", "hear": "signal", "join": "over", "until": "clock"}


def wait_of(house, choices, task):
    """Its WAIT, () if it does not wait."""
    plan = Plan(tupled(house))
    check_task(plan, task)
    return wait_at(Scene(plan, played(plan, choices)[-1]), task)


def waits(house, choices):
    """The pairs of a task and its WAIT, of all that wait."""
    plan = Plan(tupled(house))
    scene = Scene(plan, played(plan, choices)[-1])
    pairs = [(task, wait_at(scene, task)) for task in plan.tasks]
    return tuple([pair for pair in pairs if pair[1] != ()])


def end_of(house, choices, task):
    """The end of its next STEP, if it waits at one that has an end; otherwise None."""
    plan = Plan(tupled(house))
    check_task(plan, task)
    scene = Scene(plan, played(plan, choices)[-1])
    if wait_at(scene, task) == () or step_ahead(scene, task)[0] not in TIMED_WORDS:
        return None
    return time_of(step_ahead(scene, task))


def puts_of(house, choices, queue):
    """The MARKS of the puts into this queue that were taken, in the order of their numbers."""
    plan = Plan(tupled(house))
    state = played(plan, choices)[-1]
    check_queue(plan, queue)
    return puts_at(plan, state, queue)


def gets_of(house, choices, queue):
    """The MARKS of the gets from this queue that took something, in their order."""
    plan = Plan(tupled(house))
    state = played(plan, choices)[-1]
    check_queue(plan, queue)
    # What lies in a queue goes in the order of the puts: so the gets stand in it, too.
    getters = {entry[1]: mark for mark, entry in noted(plan, state, "got")}
    return tuple([getters[put] for put in puts_at(plan, state, queue) if put in getters])


def lying(house, choices, queue):
    """The MARKS of the puts that lie in this queue, the first one first."""
    plan = Plan(tupled(house))
    state = played(plan, choices)[-1]
    check_queue(plan, queue)
    return lying_at(plan, state, queue)


def got_by(house, choices, mark):
    """The MARK of the put that this get took, None if it took none."""
    plan = Plan(tupled(house))
    check_task(plan, mark[0])
    state = played(plan, choices)[-1]
    check_word(plan, mark, ("get",))
    return got_at(plan, state, mark)


def taken_by(house, choices, mark):
    """The MARK of the get that took this put, None if none did."""
    plan = Plan(tupled(house))
    check_task(plan, mark[0])
    state = played(plan, choices)[-1]
    check_word(plan, mark, ("put",))
    for getter, entry in noted(plan, state, "got"):
        if entry[1] == tupled(mark):
            return getter
    return None


def set_by(house, choices, signal):
    """The MARK that set this signal first, None if none did."""
    plan = Plan(tupled(house))
    state = played(plan, choices)[-1]
    check_signal(plan, signal)
    return setter_at(plan, state, signal)


def heard_by(house, choices, signal):
    """The set of the MARKS of the hears that heard this signal."""
    plan = Plan(tupled(house))
    state = played(plan, choices)[-1]
    check_signal(plan, signal)
    heard = [mark for mark, entry in noted(plan, state, "heard")]
    return tuple([mark for mark in heard if step_at(plan, mark)[1] == signal])


def lates(house, choices):
    """The set of the MARKS that were late."""
    plan = Plan(tupled(house))
    return tuple([mark for mark, entry in noted(plan, played(plan, choices)[-1], "late")])


def over_at(house, choices, task):
    """The clock at which the turn was taken by which the task was over; None if it is not over."""
    plan = Plan(tupled(house))
    check_task(plan, task)
    row = played(plan, choices)
    if is_over_at(plan, row[0], task):
        return 0
    for at in range(1, len(row)):
        if is_over_at(plan, row[at], task):
            return row[at - 1][0]
    return None


def can_get(house, mark):
    """The set of the MARKS of the puts that this get can take."""
    plan = Plan(tupled(house))
    check_mark_of(plan, mark, ("get",))
    taken = [got_at(plan, state, mark) for state in ends_of_plan(plan)]
    return tuple(sorted({put for put in taken if put is not None}))


def can_miss(house, mark):
    """A whole run in which this get takes nothing, None if there is none."""
    plan = Plan(tupled(house))
    check_mark_of(plan, mark, ("get",))
    web = web_of(plan)
    return first_run(web, [at for at in end_places(web) if got_at(plan, web.rows[at], mark) is None])


def is_miss(house, mark, thing):
    """Whether thing is a whole run in which this get takes nothing."""
    plan = Plan(tupled(house))
    check_mark_of(plan, mark, ("get",))
    state = state_if_whole(plan, thing)
    return state is not None and got_at(plan, state, mark) is None


def can_set(house, signal):
    """The set of the MARKS that can set this signal first."""
    plan = Plan(tupled(house))
    check_signal(plan, signal)
    setters = [setter_at(plan, state, signal) for state in ends_of_plan(plan)]
    return tuple(sorted({mark for mark in setters if mark is not None}))


def unset_run(house, signal):
    """A whole run in which nobody sets this signal, None if there is none."""
    plan = Plan(tupled(house))
    check_signal(plan, signal)
    web = web_of(plan)
    return first_run(web, [at for at in end_places(web) if setter_at(plan, web.rows[at], signal) is None])


def is_unset_run(house, signal, thing):
    """Whether thing is a whole run in which nobody sets this signal."""
    plan = Plan(tupled(house))
    check_signal(plan, signal)
    state = state_if_whole(plan, thing)
    return state is not None and setter_at(plan, state, signal) is None


def can_be_late(house, mark):
    """Whether this get, hear or join is late in some whole run."""
    return any(latenesses(house, mark))


def surely_late(house, mark):
    """Whether this get, hear or join is late in all whole runs."""
    return all(latenesses(house, mark))


def soonest_over(house, task):
    """The least clock that over_at can tell, None if the task cannot be over."""
    plan = Plan(tupled(house))
    check_task(plan, task)
    clocks = clocks_over(web_of(plan), task)
    return min(clocks) if clocks else None


def latest_over(house, task):
    """The greatest clock that over_at can tell, None if the task is not surely over."""
    plan = Plan(tupled(house))
    check_task(plan, task)
    web = web_of(plan)
    if not all([is_over_at(plan, web.rows[at], task) for at in end_places(web)]):
        return None
    return max(clocks_over(web, task))


def most_lying(house, queue):
    """How many puts lie in this queue at the most behind a RUN."""
    plan = Plan(tupled(house))
    check_queue(plan, queue)
    return max(numbers_lying(web_of(plan), queue))


def fullest(house, queue):
    """A RUN behind which as many puts lie in this queue as can be."""
    plan = Plan(tupled(house))
    check_queue(plan, queue)
    web = web_of(plan)
    numbers = numbers_lying(web, queue)
    return least_runs(web)[numbers.index(max(numbers))]


def is_fullest(house, queue, thing):
    """Whether thing is a RUN behind which as many puts lie in this queue as can be."""
    plan = Plan(tupled(house))
    check_queue(plan, queue)
    state = state_if_run(plan, thing)
    return state is not None and len(lying_at(plan, state, queue)) == max(numbers_lying(web_of(plan), queue))


def least_room(house, queue):
    """The least room with which the HOUSE can tell just what it can with room for all its puts."""
    plan = Plan(tupled(house))
    check_queue(plan, queue)
    many = len([mark for name, mark in naming_marks(tupled(house)[0], ("put",)) if name == queue])
    wanted = sorted(ends_of_plan(Plan(with_room(house, queue, max(1, many)))))
    room = 1
    while sorted(ends_of_plan(Plan(with_room(house, queue, room)))) != wanted:
        room += 1
    return room


def moments_of(house):
    """The set of the moments above 0 that stand in the HOUSE."""
    times = [time_of(step) for row in house[0] for step in tupled(row[2])]
    return tuple(sorted({time for time in times if time is not None and time > 0}))


def at_ranks(house):
    """The HOUSE with 1, 2, 3 and so on in the place of its moments."""
    return with_moments(house, list(range(1, len(moments_of(house)) + 1)))


def with_moments(house, moments):
    """The HOUSE with these in the place of its moments."""
    old = moments_of(house)
    if len(old) != len(moments):
        raise Unfit()
    news = {moment: new for moment, new in zip(old, moments)}
    tasks, groups, rooms = tupled(house)
    changed = [(name, group, tuple([retimed(step, news) for step in steps])) for name, group, steps in tasks]
    return (tuple(changed), groups, rooms)


def with_end(house, mark, end):
    """The HOUSE with this end for this get, hear or join."""
    plan = Plan(tupled(house))
    check_mark_of(plan, mark, TIMED_WORDS)
    task, number = mark
    word, name, _ = plan.scripts[task][number]
    tasks, groups, rooms = tupled(house)
    steps = plan.scripts[task][:number] + ((word, name, tupled(end)),) + plan.scripts[task][number + 1:]
    return (tuple([(row[0], row[1], steps if row[0] == task else row[2]) for row in tasks]), groups, rooms)


def check_mark_of(plan, mark, words):
    """Refuse a pair that is no MARK, or not of a STEP of these words."""
    check_task(plan, mark[0])
    check_word(plan, mark, words)


def step_at(plan, mark):
    """The STEP of this MARK."""
    return plan.scripts[mark[0]][mark[1]]


def wait_at(scene, task):
    """The WAIT of this task, () if it does not wait."""
    if not scene.is_going(task) or is_ready(scene, task):
        return ()
    word, what = step_ahead(scene, task)[:2]
    if word in CLOSING_WORDS:
        return ("group", tuple([name for name in scene.plan.members[what] if scene.is_going(name)]))
    return (WAITS[word], what)


def puts_at(plan, state, queue):
    """The MARKS of the puts into this queue, in the order of their numbers."""
    puts = [(entry[1], mark) for mark, entry in noted(plan, state, "put") if step_at(plan, mark)[1] == queue]
    return tuple([mark for number, mark in sorted(puts)])


def lying_at(plan, state, queue):
    """The MARKS of the puts that lie in this queue."""
    return state[2][plan.lane_at[queue]][1]


def got_at(plan, state, mark):
    """The MARK of the put that this get took, None if it took none."""
    entry = entry_of(plan, state, mark)
    return entry[1] if entry is not None and entry[0] == "got" else None


def setter_at(plan, state, signal):
    """The MARK that set this signal first, None if none did."""
    mark = Scene(plan, state).first_setter(signal)
    return mark if mark != () else None


def latenesses(house, mark):
    """For what each whole run tells, whether this get, hear or join was late."""
    plan = Plan(tupled(house))
    check_mark_of(plan, mark, TIMED_WORDS)
    entries = [entry_of(plan, state, mark) for state in ends_of_plan(plan)]
    return [entry is not None and entry[0] == "late" for entry in entries]


def clocks_over(web, task):
    """The clocks at which turns are taken by which the task is over; 0 alone if it is so ahead of all."""
    if is_over_at(web.plan, web.rows[0], task):
        return [0]
    over = [is_over_at(web.plan, state, task) for state in web.rows]
    return [
        web.rows[at][0]
        for at, onward in enumerate(web.onward)
        if not over[at] and any([over[to] for name, to in onward])
    ]


def numbers_lying(web, queue):
    """For each STATE how many puts lie in this queue."""
    return [len(lying_at(web.plan, state, queue)) for state in web.rows]


def retimed(step, news):
    """This STEP with the new moment in the place of its own, unless that is 0."""
    time = time_of(step)
    return (*step[:-1], news[time]) if time in news else step
