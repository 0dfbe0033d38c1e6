"""How a HOUSE goes on: the beginning, who is ready, and one turn."""

from giveways.steps import CLOSING_WORDS, TIMED_WORDS, time_of

STATUS = 1
NUMBER = 2
BY = 3
HELD = 4
WORDS = 5
DIARY = 6


class Scene:
    """A STATE of a planned HOUSE, laid out so that a turn can change it."""

    def __init__(self, plan, state):
        self.plan = plan
        self.clock = state[0]
        self.stands = list(state[1])
        self.lanes = list(state[2])
        self.signs = list(state[3])
        self.asks = []

    def told(self):
        """The STATE that stands here now."""
        return (self.clock, tuple(self.stands), tuple(self.lanes), tuple(self.signs))

    def stand(self, task):
        """The row of this task."""
        return self.stands[self.plan.stand_at[task]]

    def change(self, task, place, worth):
        """Put this into that place of the row of the task."""
        row = self.stand(task)
        self.stands[self.plan.stand_at[task]] = row[:place] + (worth,) + row[place + 1:]

    def note(self, task, entry):
        """Write an ENTRY behind all in the diary of the task."""
        self.change(task, DIARY, self.stand(task)[DIARY] + (entry,))

    def is_going(self, task):
        """Whether this task is going."""
        return self.stand(task)[STATUS] == "going"

    def depth(self, task):
        """How many shields stand around the task, by the STEPS that it has taken."""
        return self.plan.shields[task][self.stand(task)[NUMBER]]

    def lane(self, queue):
        """The row of this queue."""
        return self.lanes[self.plan.lane_at[queue]]

    def change_lane(self, queue, lying, puts):
        """Let these puts lie in the queue, so many having been put there."""
        self.lanes[self.plan.lane_at[queue]] = (queue, lying, puts)

    def first_setter(self, signal):
        """The MARK that set this signal first, () if none did."""
        return self.signs[self.plan.signal_at[signal]][1]

    def change_signal(self, signal, mark):
        """Let the signal be set by this MARK."""
        self.signs[self.plan.signal_at[signal]] = (signal, mark)


def beginning(plan):
    """The STATE at the beginning."""
    stands = [(name, "idle", 0, (), (), (), ()) for name in plan.tasks]
    lanes = [(queue, (), 0) for queue in plan.queues]
    signs = [(signal, ()) for signal in plan.signals]
    scene = Scene(plan, (0, stands, lanes, signs))
    for name in plan.first:
        let_begin(scene, name, ())
    settle(scene)
    return scene.told()


def let_begin(scene, task, mark):
    """Set this task going by this MARK; without STEPS it is ended at once."""
    scene.change(task, STATUS, "going")
    scene.change(task, BY, mark)
    end_if_through(scene, task)


def end_if_through(scene, task):
    """End the task if it is going and has taken all its STEPS."""
    if scene.is_going(task) and scene.stand(task)[NUMBER] == len(scene.plan.scripts[task]):
        scene.change(task, STATUS, "ended")


def settle(scene):
    """Let the clock go on to the least end or moment if nothing is ready."""
    going = [name for name in scene.plan.tasks if scene.is_going(name)]
    if any([is_ready(scene, name) for name in going]):
        return
    times = [time_of(step_ahead(scene, name)) for name in going]
    known = [time for time in times if time is not None]
    if known:
        scene.clock = min(known)


def step_ahead(scene, task):
    """The next STEP of this task; None if there is none, or it is over."""
    row = scene.stand(task)
    steps = scene.plan.scripts[task]
    if row[STATUS] not in ("idle", "going") or row[NUMBER] == len(steps):
        return None
    return steps[row[NUMBER]]


def is_ready(scene, task):
    """Whether this task is going and its next STEP can be taken."""
    if not scene.is_going(task):
        return False
    step = step_ahead(scene, task)
    return has_its_need(scene, step) or is_timed_out(scene, step)


def is_timed_out(scene, step):
    """Whether a get, hear or join need not wait any longer."""
    return step[0] in TIMED_WORDS and step[2] != () and scene.clock >= step[2]


def has_its_need(scene, step):
    """Whether that is there which this STEP waits for, the end set aside."""
    word = step[0]
    if word == "put":
        room = scene.plan.rooms.get(step[1])
        return room is None or len(scene.lane(step[1])[1]) < room
    if word == "get":
        return scene.lane(step[1])[1] != ()
    if word == "hear":
        return scene.first_setter(step[1]) != ()
    if word == "join":
        return scene.stand(step[1])[STATUS] not in ("idle", "going")
    if word == "until":
        return scene.clock >= step[1]
    if word in CLOSING_WORDS:
        return not any([scene.is_going(name) for name in scene.plan.members[step[1]]])
    return True


def ready_tasks(plan, state):
    """The set of the tasks that are ready at this STATE."""
    scene = Scene(plan, state)
    return tuple([name for name in plan.tasks if is_ready(scene, name)])


def take_put(scene, step, mark):
    """Lay the MARK behind all that lies in the queue."""
    queue, lying, puts = scene.lane(step[1])
    scene.change_lane(queue, lying + (mark,), puts + 1)
    scene.note(mark[0], ("put", puts))


def take_get(scene, step, mark):
    """Take the first MARK that lies in the queue."""
    queue, lying, puts = scene.lane(step[1])
    scene.change_lane(queue, lying[1:], puts)
    scene.note(mark[0], ("got", lying[0]))


def take_set(scene, step, mark):
    """Set the signal, unless it was set ahead."""
    if scene.first_setter(step[1]) == ():
        scene.change_signal(step[1], mark)


def take_hear(scene, step, mark):
    """Hear who set the signal."""
    scene.note(mark[0], ("heard", scene.first_setter(step[1])))


def take_start(scene, step, mark):
    """Set another task going."""
    let_begin(scene, step[1], mark)


def take_join(scene, step, mark):
    """Hear how another task was over."""
    row = scene.stand(step[1])
    scene.note(mark[0], ("joined", row[STATUS], row[WORDS]))


def take_cancel(scene, step, mark):
    """Ask another task to stop."""
    ask_to_stop(scene, (step[1],), mark)


def take_out(scene, step, mark):
    """Leave a shield; behind the last one, stop if that was asked within."""
    held = scene.stand(mark[0])[HELD]
    if held != () and scene.depth(mark[0]) == 0:
        ask_to_stop(scene, (mark[0],), held)


def take_catch(scene, step, mark):
    """Tell all words of the group."""
    scene.note(mark[0], ("closed", words_of(scene, step[1])))


def take_close(scene, step, mark):
    """Tell all words of the group, and fail with them if there are any."""
    words = words_of(scene, step[1])
    scene.note(mark[0], ("closed", words))
    if words != ():
        fail(scene, words, mark)


def take_fail(scene, step, mark):
    """Fail with one word."""
    fail(scene, (step[1],), mark)


def words_of(scene, group):
    """The set of all words of the tasks of this group."""
    return tuple(sorted({word for name in scene.plan.members[group] for word in scene.stand(name)[WORDS]}))


def fail(scene, words, mark):
    """Let the task of this MARK fail, and ask those to stop whom that concerns."""
    task = mark[0]
    scene.change(task, STATUS, "failed")
    scene.change(task, WORDS, words)
    ask_to_stop(scene, scene.plan.wards[task] + scene.plan.mates[task], mark)


def ask_to_stop(scene, names, mark):
    """Ask these to stop, in order; whom a stopped one hosts is asked directly behind it."""
    asked = list(names[::-1])
    while asked:
        name = asked.pop()
        word = word_for_asked(scene, name)
        scene.asks.append((name, word))
        if word == "stops":
            scene.change(name, STATUS, "stopped")
            scene.note(name, ("stopped", mark))
            asked.extend(scene.plan.wards[name][::-1])
        elif word == "held":
            scene.change(name, HELD, mark)


def word_for_asked(scene, task):
    """What comes of it when this task is asked to stop."""
    if not scene.is_going(task):
        return "nothing"
    if scene.depth(task) == 0:
        return "stops"
    return "held" if scene.stand(task)[HELD] == () else "nothing"


ACTIONS = {
    "put": take_put,
    "get": take_get,
    "set": take_set,
    "hear": take_hear,
    "start": take_start,
    "join": take_join,
    "cancel": take_cancel,
    "out": take_out,
    "close": take_close,
    "catch": take_catch,
    "fail": take_fail,
}


def state_behind_turn(plan, state, task):
    """The STATE behind the turn of a task that is ready, settled."""
    return scene_behind_turn(plan, state, task).told()


def scene_behind_turn(plan, state, task):
    """The scene behind the turn of a task that is ready, settled, with what it asked of whom."""
    scene = Scene(plan, state)
    number = scene.stand(task)[NUMBER]
    step = step_ahead(scene, task)
    is_late = not has_its_need(scene, step)
    scene.change(task, NUMBER, number + 1)
    if is_late:
        scene.note(task, ("late", number))
    elif step[0] in ACTIONS:
        action = ACTIONS[step[0]]
        action(scene, step, (task, number))
    end_if_through(scene, task)
    settle(scene)
    return scene
