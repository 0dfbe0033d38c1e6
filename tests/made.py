"""Many houses and many runs, made by a plain rule of counting, and lists in the place of tuples."""

from giveways.houses import begin, ready, turn

NAMES = ("ann", "bob", "cy", "dan", "eve", "fay")
PLAIN_WORDS = ("give", "put", "get", "set", "hear", "join", "until", "cancel", "fail")


class Row:
    """A row of numbers, each one told by the one ahead; the same start tells the same row."""

    def __init__(self, start):
        self.number = start * 7919 + 17

    def below(self, limit):
        self.number = (self.number * 69069 + 12345) % 4294967296
        return (self.number // 65536) % limit

    def one_of(self, things):
        return things[self.below(len(things))]

    def mixed(self, things):
        rest, told = list(things), []
        while rest:
            told.append(rest.pop(self.below(len(rest))))
        return told


def plain_step(row, own, tasks):
    """A STEP that starts and closes nothing."""
    word = row.one_of(PLAIN_WORDS + ("put", "put", "set", "cancel"))
    end = row.one_of(((), (), (), 0, 1, 2, 3))
    others = [name for name in tasks if name != own]
    if word in ("join", "cancel"):
        if not others:
            return ("give",)
        name = row.one_of(others)
        return (word, name, end) if word == "join" else (word, name)
    if word in ("put", "set", "fail"):
        return (word, row.one_of(("q", "r")))
    if word in ("get", "hear"):
        return (word, row.one_of(("q", "r")), end)
    if word == "until":
        return (word, row.below(4))
    return (word,)


def with_shields(row, steps):
    """The STEPS with a shield put around some of them, maybe a second one within or around."""
    told, depth = list(steps), row.one_of((0, 0, 1, 1, 2)) if steps else 0
    first, last = 0, len(told)
    for _ in range(depth):
        first = first + row.below(last - first)
        last = first + 1 + row.below(last - first)
        told = told[:first] + [("in",)] + told[first:last] + [("out",)] + told[last:]
        first, last = (first, last + 2) if row.below(2) else (first + 1, last + 1)
    return told


def made_house(start):
    """A HOUSE of one to five tasks, told by this number alone."""
    row = Row(start)
    tasks = row.mixed(NAMES)[:1 + row.below(5)]
    groups = {}
    for group in ("g", "h")[:row.below(3)]:
        groups[group] = tasks[row.below(len(tasks))]
    starts, group_of = {name: [] for name in tasks}, {}
    for at, name in enumerate(tasks):
        ahead = tasks[:at]
        able = [group for group in sorted(groups) if groups[group] in ahead]
        group_of[name] = row.one_of(able + [""]) if able else ""
        if group_of[name]:
            starts[groups[group_of[name]]].append(name)
        elif ahead and row.below(3) == 0:
            starts[row.one_of(ahead)].append(name)
    told = []
    for name in sorted(tasks):
        ahead = [("start", other) for other in starts[name]]
        ahead += [plain_step(row, name, tasks) for _ in range(row.below(4))]
        steps = with_shields(row, row.mixed(ahead))
        for group in sorted(groups):
            if groups[group] == name:
                steps.append((row.one_of(("close", "catch")), group))
                steps += [plain_step(row, name, tasks) for _ in range(row.below(2))]
        told.append((name, group_of[name], tuple(steps)))
    rooms = tuple((queue, 1 + row.below(2)) for queue in ("q", "r") if row.below(2))
    return (tuple(told), tuple(sorted(groups.items())), rooms)


def made_run(house, start):
    """A whole run of the HOUSE, told by this number alone."""
    row, state, turns = Row(start), begin(house), []
    while ready(house, state):
        turns.append(row.one_of(ready(house, state)))
        state = turn(house, state, turns[-1])
    return tuple(turns)


def listed(worth):
    """The same value with a list in the place of each tuple."""
    if isinstance(worth, (list, tuple)):
        return [listed(part) for part in worth]
    return worth


def built(scripts, groups=None, rooms=None):
    """The HOUSE of these SCRIPTS by "task" or "task in group", of hosts by group, of rooms by queue."""
    tasks = []
    for name, steps in scripts.items():
        task, _, group = name.partition(" in ")
        tasks.append((task, group, tuple(steps)))
    return (tuple(sorted(tasks)), tuple(sorted((groups or {}).items())), tuple(sorted((rooms or {}).items())))


def stands(state):
    """The rows of the stands by task, each as a dict of its parts."""
    parts = ("task", "status", "number", "by", "held", "words", "diary")
    return {row[0]: dict(zip(parts, row)) for row in state[1]}


def small_house(start):
    """A HOUSE of two to four tasks and at most twelve STEPS, told by this number alone."""
    number = start * 1000
    while True:
        house = made_house(number)
        if 2 <= len(house[0]) <= 4 and sum(len(row[2]) for row in house[0]) <= 12:
            return house
        number += 1


def odd_things():
    """Values of every kind that a thing may have."""
    deep = "a"
    for _ in range(12):
        deep = (deep,)
    return [None, True, False, 0, 1, -1, 10 ** 30, "", "a", "ann", (), [], ((),), ([],), [()], ("ann",), ["ann"], ("",),
            (None,), (0,), (True,), (-1,), (("ann",),), (("ann", 0),), ("ann", 0), ("a",) * 300, (0,) * 300, deep,
            ((), ()), ((), (), ()), (((), ()), "a", "b"), ("a", (), "b"), tuple(range(40)), (("a",), ("b",))]


def spoilt(thing):
    """The thing with one place changed, each in many ways, at any depth."""
    yield from (None, [thing], (thing,), True)
    if isinstance(thing, str):
        yield from ("", thing + "x", 0, thing.upper())
    elif isinstance(thing, bool) or thing is None:
        yield 1
    elif isinstance(thing, int):
        yield from (thing + 1, thing - 1, -thing - 1, str(thing), bool(thing))
    else:
        yield from (list(thing), thing + (thing[-1:] or ("ann",)), thing + (None,), thing[1:], thing[:-1], thing[::-1])
        for at, part in enumerate(thing):
            for other in spoilt(part):
                yield thing[:at] + (other,) + thing[at + 1:]


def judged(case, judge, right, others=()):
    """Hold an is_ function to the list of all that is right, on it, on it spoilt and on odd things."""
    known = {repr(thing) for thing in right}
    for thing in [*right, *others, *odd_things()]:
        case.assertEqual(judge(thing), repr(thing) in known, thing)
    for thing in list(right)[:3]:
        for other in spoilt(thing):
            case.assertEqual(judge(other), repr(other) in known, other)


class Refusing:
    """Tests of what a call refuses: the class of its error, and the one value that it has, None if it has none."""

    def refused(self, kind, worth, function, *args):
        with self.assertRaises(kind) as caught:
            function(*args)
        self.assertIs(type(caught.exception), kind)
        self.assertEqual(list(vars(caught.exception).values()), [] if worth is None else [worth])
