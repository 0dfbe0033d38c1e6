"""A slow and literal reading of [3] and [4], to hold the package against."""

ENDS = ("get", "hear", "join")


def names_of(house):
    return [row[0] for row in house[0]]


def script(house, task):
    return [row[2] for row in house[0] if row[0] == task][0]


def group_tasks(house, group):
    return [row[0] for row in house[0] if row[1] == group]


def hosted_tasks(house, task):
    return [name for group, host in house[1] if host == task for name in group_tasks(house, group)]


def group_mates(house, task):
    group = [row[1] for row in house[0] if row[0] == task][0]
    return [name for name in group_tasks(house, group) if name != task] if group else []


class Play:
    """One STATE as plain dicts, on which turns are taken."""

    def __init__(self, house):
        self.house, self.clock, self.turns, self.log = house, 0, [], []
        steps = [step for row in house[0] for step in row[2]]
        started = [step[1] for step in steps if step[0] == "start"]
        self.status = {name: "idle" for name in names_of(house)}
        self.number = {name: 0 for name in self.status}
        self.by = {name: () for name in self.status}
        self.held = {name: () for name in self.status}
        self.words = {name: () for name in self.status}
        self.diary = {name: [] for name in self.status}
        self.over_at = {}
        queues = [step[1] for step in steps if step[0] in ("put", "get")] + [queue for queue, room in house[2]]
        self.lying = {queue: [] for queue in queues}
        self.puts = {queue: 0 for queue in queues}
        self.setter = {step[1]: () for step in steps if step[0] in ("set", "hear")}
        for name in self.status:
            if name not in started:
                self.status[name] = "going"
                self.end(name)
        self.settle()

    def state(self):
        rows = tuple(
            (name, self.status[name], self.number[name], self.by[name], self.held[name], self.words[name],
             tuple(self.diary[name]))
            for name in sorted(self.status)
        )
        lanes = tuple((queue, tuple(self.lying[queue]), self.puts[queue]) for queue in sorted(self.lying))
        return (self.clock, rows, lanes, tuple(sorted(self.setter.items())))

    def copy(self):
        other = object.__new__(Play)
        for key, worth in vars(self).items():
            setattr(other, key, worth)
        for key in ("turns", "log", "status", "number", "by", "held", "words", "over_at", "puts", "setter"):
            setattr(other, key, getattr(self, key).copy())
        for key in ("diary", "lying"):
            setattr(other, key, {name: row.copy() for name, row in getattr(self, key).items()})
        return other

    def end(self, name):
        if self.status[name] == "going" and self.number[name] == len(script(self.house, name)):
            self.status[name], self.over_at[name] = "ended", self.clock

    def next(self, name):
        return script(self.house, name)[self.number[name]]

    def needs_nothing(self, name):
        word, *rest = self.next(name)
        if word == "put":
            return len(self.lying[rest[0]]) < dict(self.house[2]).get(rest[0], float("inf"))
        if word == "get":
            return bool(self.lying[rest[0]])
        if word == "hear":
            return self.setter[rest[0]] != ()
        if word == "join":
            return self.status[rest[0]] in ("ended", "stopped", "failed")
        if word == "until":
            return self.clock >= rest[0]
        if word in ("close", "catch"):
            return all(self.status[other] != "going" for other in group_tasks(self.house, rest[0]))
        return True

    def time(self, name):
        word, *rest = self.next(name)
        if word == "until":
            return rest[0]
        return rest[1] if word in ENDS and rest[1] != () else None

    def is_ready(self, name):
        if self.status[name] != "going":
            return False
        if self.needs_nothing(name):
            return True
        return self.next(name)[0] in ENDS and self.time(name) is not None and self.clock >= self.time(name)

    def ready(self):
        return tuple(name for name in sorted(self.status) if self.is_ready(name))

    def settle(self):
        if not self.ready():
            times = [self.time(name) for name in self.status if self.status[name] == "going"]
            times = [time for time in times if time is not None]
            if times:
                self.clock = min(times)

    def shields(self, name):
        taken = script(self.house, name)[:self.number[name]]
        return taken.count(("in",)) - taken.count(("out",))

    def ask(self, name, mark):
        if self.status[name] != "going":
            self.log.append(("asked", name, "nothing"))
            return
        if self.shields(name) > 0:
            self.log.append(("asked", name, "nothing" if self.held[name] else "held"))
            self.held[name] = self.held[name] or mark
            return
        self.log.append(("asked", name, "stops"))
        self.log.append(("stopped", name, mark, self.number[name]))
        self.status[name], self.over_at[name] = "stopped", self.clock
        self.diary[name].append(("stopped", mark))
        for other in hosted_tasks(self.house, name):
            self.ask(other, mark)

    def fail(self, name, words, mark):
        self.log.append(("failed", name, mark, words))
        self.status[name], self.words[name], self.over_at[name] = "failed", words, self.clock
        for other in hosted_tasks(self.house, name) + group_mates(self.house, name):
            self.ask(other, mark)

    def take(self, name):
        assert self.is_ready(name)
        step, late, mark = self.next(name), not self.needs_nothing(name), (name, self.number[name])
        self.number[name] += 1
        self.turns.append(name)
        self.log.append(("taken", mark))
        if late:
            self.log.append(("late", mark))
            self.diary[name].append(("late", mark[1]))
        else:
            self.do(name, step, mark)
        self.end(name)
        self.settle()

    def do(self, name, step, mark):
        word, thing = step[0], step[1] if len(step) > 1 else None
        if word == "put":
            self.log.append(("put", thing, mark))
            self.diary[name].append(("put", self.puts[thing]))
            self.lying[thing].append(mark)
            self.puts[thing] += 1
        elif word == "get":
            self.log.append(("got", thing, mark, self.lying[thing][0]))
            self.diary[name].append(("got", self.lying[thing].pop(0)))
        elif word == "set":
            self.setter[thing] = self.setter[thing] or mark
        elif word == "hear":
            self.log.append(("heard", thing, mark))
            self.diary[name].append(("heard", self.setter[thing]))
        elif word == "start":
            self.status[thing], self.by[thing] = "going", mark
            self.end(thing)
        elif word == "join":
            self.diary[name].append(("joined", self.status[thing], self.words[thing]))
        elif word == "cancel":
            self.ask(thing, mark)
        elif word in ("close", "catch"):
            words = tuple(sorted({word for other in group_tasks(self.house, thing) for word in self.words[other]}))
            self.log.append(("closed", thing, words))
            self.diary[name].append(("closed", words))
            if words and word == "close":
                self.fail(name, words, mark)
        elif word == "fail":
            self.fail(name, (thing,), mark)
        elif word == "out" and self.shields(name) == 0 and self.held[name] != ():
            self.ask(name, self.held[name])

    def events(self, word):
        """What was logged by this word, each without it."""
        return [event[1:] for event in self.log if event[0] == word]


def played(house, choices):
    """The Play behind these turns."""
    play = Play(house)
    for name in choices:
        play.take(name)
    return play


def all_plays(house, limit):
    """The Play behind each RUN of a small HOUSE, shorter ones first; None if there are more than so many."""
    plays = [Play(house)]
    for play in plays:
        for name in play.ready():
            plays.append(play.copy())
            plays[-1].take(name)
        if len(plays) > limit:
            return None
    return plays


def whole_plays(house, limit):
    """The Play behind each whole run, None if there are more RUNS than so many."""
    plays = all_plays(house, limit)
    return plays and [play for play in plays if not play.ready()]
