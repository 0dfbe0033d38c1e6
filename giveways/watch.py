"""Watches, which go along a HOUSE there and back; RUNS changed, and held against one another."""

from giveways.checks import check_places, check_task, check_tasks
from giveways.diaries import next_mark, row_at
from giveways.errors import NoNumber, NothingDone
from giveways.plans import Plan
from giveways.play import DIARY, NUMBER, STATUS, beginning, ready_tasks, state_behind_turn
from giveways.runs import check_ready, checked_turn, played
from giveways.shapes import tupled
from giveways.webs import least_runs, web_from, web_of


class Watch:
    """A RUN of a HOUSE, and the turns ahead that were taken back."""

    def __init__(self, house):
        self._plan = Plan(tupled(house))
        self._house = tupled(house)
        self._taken = []
        self._ahead = []
        # The STATES behind all turns taken, and behind those ahead.
        self._states = [beginning(self._plan)]

    @property
    def house(self):
        """The HOUSE."""
        return self._house

    @property
    def choices(self):
        """The turns that were taken."""
        return tuple(self._taken)

    @property
    def state(self):
        """The STATE behind the turns that were taken."""
        return self._states[len(self._taken)]

    @property
    def ahead(self):
        """The turns that were taken back last, and not taken again, the first one first."""
        return tuple(self._ahead)

    def __len__(self):
        return len(self._taken)

    def __eq__(self, other):
        return (
            isinstance(other, Watch)
            and self._house == other._house
            and self._taken == other._taken
            and self._ahead == other._ahead
        )

    def ready(self):
        """The set of the ready tasks."""
        return ready_tasks(self._plan, self.state)

    def take(self, task):
        """Take a turn of this task."""
        check_task(self._plan, task)
        check_ready(self._plan, self.state, task)
        if self._ahead[:1] == [task]:
            self.again()
            return
        later = state_behind_turn(self._plan, self.state, task)
        self._states = [*self._states[:len(self._taken) + 1], later]
        self._taken.append(task)
        self._ahead = []

    def go(self, choices):
        """Take these turns, one behind another, all or none."""
        check_tasks(self._plan, choices)
        state = self.state
        for task in choices:
            state = checked_turn(self._plan, state, task)
        for task in choices:
            self.take(task)

    def back(self):
        """Take the last turn back."""
        if self._taken == []:
            raise NothingDone()
        self._ahead.insert(0, self._taken.pop())

    def again(self):
        """Take the first one of the turns ahead."""
        if self._ahead == []:
            raise NothingDone()
        self._taken.append(self._ahead.pop(0))

    def to(self, number):
        """Go back or again till so many turns are taken."""
        self._check_number(number)
        while len(self._taken) > number:
            self.back()
        while len(self._taken) < number:
            self.again()

    def state_at(self, number):
        """The STATE behind the first so many of the turns taken and ahead."""
        self._check_number(number)
        return self._states[number]

    def diary(self, task):
        """The diary of this task so far."""
        check_task(self._plan, task)
        return row_at(self._plan, self.state, task)[DIARY]

    def twin(self):
        """An equal Watch that shares nothing with this one."""
        other = Watch(self._house)
        other.go([*self._taken, *self._ahead])
        other.to(len(self._taken))
        return other

    def _check_number(self, number):
        """Refuse a number of turns that are not there."""
        if not 0 <= number < len(self._states):
            raise NoNumber(number)


def moments(house, choices):
    """The clocks at the beginning, and behind each turn."""
    return tuple([state[0] for state in played(Plan(tupled(house)), choices)])


def held_up(house, choices):
    """The MARKS of the next STEPS of the tasks that are going and not ready."""
    plan = Plan(tupled(house))
    state = played(plan, choices)[-1]
    names = ready_tasks(plan, state)
    going = [row[0] for row in state[1] if row[STATUS] == "going"]
    return tuple([next_mark(plan, state, task) for task in going if task not in names])


def changed(house, choices, number, task):
    """The RUN that takes this task behind so many turns, then what can still be taken; and what cannot."""
    plan = Plan(tupled(house))
    check_task(plan, task)
    row = played(plan, choices)
    check_places(row, (number,))
    check_ready(plan, row[number], task)
    state = state_behind_turn(plan, row[number], task)
    run = [*choices[:number], task]
    left = []
    for at in places_left(choices, number, task):
        if choices[at] in ready_tasks(plan, state):
            state = state_behind_turn(plan, state, choices[at])
            run.append(choices[at])
        else:
            left.append(at)
    return (tuple(run), tuple(left))


def unlike_tasks(house, one, other):
    """The set of the tasks that stand otherwise behind the one RUN than behind the other one."""
    first, second = both_states(house, one, other)
    return tuple([row[0] for row, far in zip(first[1], second[1]) if row != far])


def first_unlike(house, one, other):
    """The least task and place of an ENTRY that is otherwise behind the other RUN, or missing there, or None."""
    first, second = both_states(house, one, other)
    for row, far in zip(first[1], second[1]):
        if row[DIARY] != far[DIARY]:
            return (row[0], unlike_place(row[DIARY], far[DIARY]))
    return None


def rest_of(house, one, other):
    """The least CHOICES which, behind one, come to the STATE behind the other; None if none do."""
    first, second = both_states(house, one, other)
    web = web_from(Plan(tupled(house)), first)
    return least_runs(web)[web.at[second]] if second in web.at else None


def shortest_to(house, task, number):
    """Of the shortest RUNS behind which this task has taken so many STEPS the least, None if there is none."""
    plan = Plan(tupled(house))
    check_task(plan, task)
    web = web_of(plan)
    runs = least_runs(web)
    fitting = [runs[at] for at, state in enumerate(web.rows) if row_at(plan, state, task)[NUMBER] == number]
    return min(fitting, key=lambda run: (len(run), run)) if fitting else None


def both_states(house, one, other):
    """The STATES behind these two RUNS."""
    plan = Plan(tupled(house))
    check_tasks(plan, one)
    check_tasks(plan, other)
    return (played(plan, one)[-1], played(plan, other)[-1])


def places_left(choices, number, task):
    """The places from this number on, without that of the first turn of this task."""
    places = list(range(number, len(choices)))
    own = [at for at in places if choices[at] == task]
    return [at for at in places if at not in own[:1]]


def unlike_place(diary, other):
    """The first place at which these two unlike diaries are not the same."""
    both = min(len(diary), len(other))
    return min([at for at in range(both) if diary[at] != other[at]], default=both)
