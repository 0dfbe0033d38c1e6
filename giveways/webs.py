"""All STATES behind the runs of a small HOUSE, and the turns that lead from one to another."""

from giveways.play import NUMBER, beginning, ready_tasks, state_behind_turn


class Web:
    """The STATES by places, those behind fewer turns first, and for each the turns that lead on."""

    def __init__(self, plan, state):
        self.plan = plan
        self.rows = [state]
        self.turns = [0]
        self.onward = []
        self.at = {state: 0}

    def grow(self):
        """Find all STATES, each one ahead of those behind more turns."""
        while len(self.onward) < len(self.rows):
            here = len(self.onward)
            state = self.rows[here]
            self.onward.append([
                (task, self.place(state_behind_turn(self.plan, state, task), self.turns[here] + 1))
                for task in ready_tasks(self.plan, state)
            ])

    def place(self, state, turns):
        """The place of this STATE, a new one if it was not found ahead."""
        if state not in self.at:
            self.at[state] = len(self.rows)
            self.rows.append(state)
            self.turns.append(turns)
        return self.at[state]


def web_of(plan):
    """All STATES behind the runs of the HOUSE."""
    return web_from(plan, beginning(plan))


def web_from(plan, state):
    """All STATES behind this one, itself too."""
    web = Web(plan, state)
    web.grow()
    return web


def end_places(web):
    """The places of the STATES at which nothing is ready."""
    return [at for at, onward in enumerate(web.onward) if onward == []]


def ends_of(web):
    """The STATES at which nothing is ready."""
    return [web.rows[at] for at in end_places(web)]


def ends_of_plan(plan):
    """What the whole runs of the HOUSE tell."""
    return ends_of(web_of(plan))


def least_runs(web):
    """For each STATE the least run to it."""
    told = [()] + [None] * (len(web.rows) - 1)
    for at, onward in enumerate(web.onward):
        for task, to in onward:
            run = told[at] + (task,)
            if told[to] is None or run < told[to]:
                told[to] = run
    return told


def first_run(web, places):
    """The least run to the first of these places, None if there are none."""
    return least_runs(web)[places[0]] if places else None


def turns_taking(web, mark):
    """The pairs of the places of the STATES ahead of and behind each turn that takes this STEP."""
    stand = web.plan.stand_at[mark[0]]
    return [
        (at, to)
        for at, onward in enumerate(web.onward)
        for task, to in onward
        if task == mark[0] and web.rows[at][1][stand][NUMBER] == mark[1]
    ]
