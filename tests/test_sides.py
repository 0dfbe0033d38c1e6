"""[12] HOUSES side by side, renamed, with gives more and without, and without tasks whom nobody heeds."""

import unittest
from itertools import combinations
from math import prod

from giveways.clash import is_same
from giveways.errors import Known, NoGroup, NoQueue, NoSignal, NoStep, NotReady, NotWhole, NoTask, Unfit
from giveways.houses import after, begin, is_whole, states, told
from giveways.orders import ends_told
from giveways.scripts import is_house, queue_names, signal_names, task_names
from giveways.sides import (
    beats, beside, heeders, heeds, renamed, renamed_state, side_of, sides, state_without_gives, state_without_tasks, unwoven,
    weavings, with_gives, without_gives, without_tasks,
)
from tests.made import Refusing, Row, built, listed, made_house, made_run, small_house
from tests.plain import Play, group_mates, hosted_tasks, script
from tests.walked import walked

NAMED = {"put": "queue", "get": "queue", "set": "signal", "hear": "signal", "start": "task", "join": "task",
         "cancel": "task", "close": "group", "catch": "group"}


def by_names(house, news):
    """The HOUSE by new names; news tells for each kind the new name by the old one."""
    def new(kind, name):
        return news.get(kind, {}).get(name, name)
    tasks = [(new("task", task), new("group", group),
              tuple((step[0], new(NAMED[step[0]], step[1])) + step[2:] if step[0] in NAMED else step for step in steps))
             for task, group, steps in house[0]]
    groups = [(new("group", group), new("task", host)) for group, host in house[1]]
    return (tuple(sorted(tasks)), tuple(sorted(groups)), tuple(sorted((new("queue", queue), room) for queue, room in house[2])))


def names_of(house, kind):
    return {"task": task_names, "queue": queue_names, "signal": signal_names,
            "group": lambda house: tuple(group for group, _ in house[1])}[kind](house)


def far(house):
    """The HOUSE with an x behind each name."""
    return by_names(house, {kind: {name: name + "x" for name in names_of(house, kind)} for kind in set(NAMED.values())})


def far_run(run):
    return tuple(name + "x" for name in run)


def named(house, task, *words):
    return {step[1] for step in script(house, task) if step[0] in words}


def near(house, one, other):
    """Whether both hang together, read off row by row."""
    pairs = ((one, other), (other, one))
    return (bool(named(house, one, "put", "get") & named(house, other, "put", "get"))
            or bool(named(house, one, "set", "hear") & named(house, other, "set", "hear"))
            or any(far in named(house, task, "start", "join", "cancel") or far in hosted_tasks(house, task)
                   for task, far in pairs) or other in group_mates(house, one))


def lots_of(house):
    """The sides, put together by joining lots."""
    lots = [{task} for task in task_names(house)]
    for one, other in combinations(task_names(house), 2):
        if near(house, one, other):
            both = [lot for lot in lots if one in lot or other in lot]
            lots = [lot for lot in lots if lot not in both] + [set().union(*both)]
    return tuple(sorted(tuple(sorted(lot)) for lot in lots))


class Sides(unittest.TestCase):
    def test_there_and_back(self):
        many = set()
        for number in range(250):
            house = made_house(number)
            lots = sides(house)
            self.assertEqual(lots, lots_of(house))
            parts = [side_of(house, lot[-1]) for lot in lots]
            for lot, part in zip(lots, parts):
                self.assertTrue(is_house(part))
                self.assertEqual(task_names(part), lot)
                self.assertEqual({side_of(house, task) for task in lot}, {part})
                self.assertEqual(sides(part), (lot,))
            whole = parts[0]
            for part in parts[1:]:
                whole = beside(part, whole)
            used = {step[1] for row in house[0] for step in row[2] if step[0] in ("put", "get")}
            self.assertEqual(whole, (house[0], house[1], tuple(row for row in house[2] if row[0] in used)))
            many.add(len(lots))
        self.assertLessEqual({1, 2, 3}, many)

    def test_beside(self):
        for number in range(120):
            house, other = made_house(number), far(made_house(number + 1))
            both = beside(house, other)
            self.assertTrue(is_house(both))
            self.assertEqual(both, tuple(tuple(sorted(house[at] + other[at])) for at in range(3)))
            self.assertEqual(beside(other, house), both)
            self.assertEqual(beside(listed(house), listed(other)), both)

    def test_what_each_one_tells(self):
        for number in range(150):
            house, other = made_house(number), far(made_house(number + 300))
            both = beside(house, other)
            run = made_run(both, number)
            state, turns = told(both, run), [tuple(task for task in run if task in task_names(part)) for part in (house, other)]
            ends = [told(part, own) for part, own in zip((house, other), turns)]
            self.assertEqual(state[0], max(end[0] for end in ends))
            for at in (1, 2, 3):
                self.assertEqual(state[at], tuple(sorted(ends[0][at] + ends[1][at])))

    def test_the_same_for_all_orders(self):
        seen = set()
        for number in range(160):
            house, other = small_house(number), far(small_house(number * 7 % 160 + 1))
            tells = (is_same(house), is_same(other))
            if sum(len(row[2]) for row in house[0] + other[0]) <= 13:
                self.assertIs(is_same(beside(house, other)), all(tells))
                seen.add(tells)
        self.assertEqual(len(seen), 4)

    def test_a_room_of_no_side(self):
        house = built({"a": [("put", "q")], "b": []}, {}, {"q": 3, "r": 2})
        self.assertEqual(side_of(house, "a"), built({"a": [("put", "q")]}, {}, {"q": 3}))
        self.assertEqual(side_of(house, "b"), built({"b": []}))

    def test_an_empty_group_goes_with_its_host(self):
        house = built({"a": [("close", "g")], "b": []}, {"g": "a"})
        self.assertEqual(side_of(house, "a"), built({"a": [("close", "g")]}, {"g": "a"}))
        self.assertEqual(sides(house), (("a",), ("b",)))

    def test_words_that_bind(self):
        for word in ("start", "join", "cancel"):
            step = (word, "b", ()) if word == "join" else (word, "b")
            self.assertEqual(sides(built({"a": [step], "b": []})), (("a", "b"),))
            self.assertEqual(sides(built({"b": [(*step[:1], "c", *step[2:])], "c": [], "a": []})), (("a",), ("b", "c")))
        self.assertEqual(sides(built({"a": [("put", "q")], "b": [("set", "q")], "c": [("fail", "q")]})), (("a",), ("b",), ("c",)))
        self.assertEqual(sides(built({"a": [("get", "q", 1)], "b": [("get", "q", ())], "c": [("hear", "s", 1)],
                                      "d": [("hear", "s", ())]})), (("a", "b"), ("c", "d")))


class Weaving(unittest.TestCase):
    def test_beats_and_unwoven(self):
        moments = set()
        for number in range(200):
            house = made_house(number)
            run = made_run(house, number)
            play, clocks = Play(house), []
            for task in run:
                clocks.append(play.clock)
                play.take(task)
            expected = tuple((clock, clocks.count(clock)) for clock in sorted(set(clocks)))
            self.assertEqual(beats(house, run), expected)
            self.assertEqual(beats(house, list(run[:2])), tuple((clock, clocks[:2].count(clock)) for clock in sorted(set(clocks[:2]))))
            parts = unwoven(house, listed(run))
            self.assertEqual(parts, tuple(tuple(task for task in run if task in lot) for lot in lots_of(house)))
            for lot, own in zip(sides(house), parts):
                self.assertTrue(is_whole(side_of(house, lot[0]), own))
            moments.add(len(expected))
        self.assertLessEqual({1, 2, 3}, moments)

    def counted(self, both, rows):
        """In how many RUNS of both these are the turns of the one and of the other, walked turn by turn."""
        waiting, many = [(Play(both), (0, 0))], 0
        while waiting:
            play, at = waiting.pop()
            if at == tuple(map(len, rows)):
                many += 1
            for side in (0, 1):
                if at[side] < len(rows[side]) and rows[side][at[side]] in play.ready():
                    later = play.copy()
                    later.take(rows[side][at[side]])
                    waiting.append((later, (at[0] + 1 - side, at[1] + side)))
        return many

    def test_weavings(self):
        seen, timed = set(), 0
        for number in range(250):
            house, other = made_house(number), far(made_house(number + 77))
            one, two = made_run(house, number), far_run(made_run(made_house(number + 77), number))
            if len(one) + len(two) > 10:
                continue
            many = self.counted(beside(house, other), (one, two))
            self.assertEqual(weavings(house, other, one, two), many)
            self.assertEqual(weavings(other, house, list(two), list(one)), many)
            seen.add(many)
            timed += len(set(beats(house, one)) | set(beats(other, two))) > 2 and many > 1
        self.assertGreater(len(seen), 12)
        self.assertGreater(timed, 10)

    def test_by_moments(self):
        house = built({"a": [("give",), ("give",), ("until", 3), ("give",)]})
        other = built({"x": [("give",), ("until", 2), ("give",), ("until", 3)]})
        self.assertEqual(beats(house, ("a",) * 4), ((0, 2), (3, 2)))
        self.assertEqual(weavings(house, other, ("a",) * 4, ("x",) * 4), prod((3, 1, 3)))
        self.assertEqual(weavings(built({"a": []}), built({"x": []}), (), ()), 1)
        self.assertEqual((beats(house, ()), unwoven(house, ())), ((), ((),)))


class Renamed(unittest.TestCase):
    FRESH = ("zed", "a", "zz", "qqq", "longname", "b")

    def pairs_of(self, names):
        """Rows of pairs: each name a new one, two that change places, all turned round."""
        yield ()
        yield tuple(zip(names, self.FRESH)) if not set(names) & set(self.FRESH) else ()
        if names:
            yield ((names[-1], "new"),)
            yield ((names[0], names[0]),)
            yield tuple(zip(names, names[1:] + names[:1]))
            yield tuple(zip(names, names[::-1]))[::-1]

    def test_there_and_back(self):
        for number in range(120):
            house = made_house(number)
            run = made_run(house, number)
            for kind in ("task", "queue", "signal", "group"):
                for pairs in self.pairs_of(names_of(house, kind)):
                    other = renamed(house, kind, pairs)
                    self.assertTrue(is_house(other))
                    self.assertEqual(other, by_names(house, {kind: dict(pairs)}))
                    own = dict(pairs) if kind == "task" else {}
                    turns = tuple(own.get(task, task) for task in run)
                    back = tuple((new, old) for old, new in pairs)
                    self.assertEqual(renamed(other, kind, back), house)
                    for state, later in list(zip(states(house, run), states(other, turns)))[::2]:
                        self.assertEqual(renamed_state(house, kind, pairs, state), later)
                        self.assertEqual(renamed_state(other, kind, back, later), state)

    def test_words_are_kept(self):
        house = built({"q": [("put", "q"), ("set", "q"), ("fail", "q"), ("start", "b"), ("close", "g")],
                       "b in g": [("cancel", "q")]}, {"g": "q"}, {"q": 1})
        self.assertEqual(renamed(house, "queue", (("q", "z"),))[0][1][2][:3], (("put", "z"), ("set", "q"), ("fail", "q")))
        self.assertEqual(renamed(house, "task", [["q", "z"]])[1], (("g", "z"),))
        self.assertEqual(renamed(house, "task", (("q", "a"), ("b", "z")))[0][1], ("z", "g", (("cancel", "a"),)))
        self.assertEqual(renamed(house, "group", (("g", "q"),))[1], (("q", "q"),))


def spare_of(steps):
    return [step == ("give",) and any(later != ("give",) for later in steps[at:]) for at, step in enumerate(steps)]


def counted_without(house, state, spare):
    """The STATE by a plain reading: each MARK and each number with the STEPS that spare tells of left out."""
    def less(task, number):
        return number - sum(spare[task][:number])

    def mark(worth):
        return (worth[0], less(*worth)) if worth else worth

    def entry(task, row):
        if row[0] == "late":
            return ("late", less(task, row[1]))
        return (row[0], mark(row[1])) if row[0] in ("got", "heard", "stopped") else row
    stands = tuple((task, status, less(task, number), mark(by), mark(held), words, tuple(entry(task, row) for row in diary))
                   for task, status, number, by, held, words, diary in state[1])
    lanes = tuple((queue, tuple(map(mark, lying)), puts) for queue, lying, puts in state[2])
    return (state[0], stands, lanes, tuple((signal, mark(by)) for signal, by in state[3]))


def with_made_gives(house, start):
    """The HOUSE with gives put in at places told by this number alone."""
    row = Row(start)
    for task, _, steps in house[0]:
        for _ in range(row.below(4)):
            house = with_gives(house, task, row.below(len(script(house, task)) + 1), 1 + row.below(2))
    return house


class Gives(unittest.TestCase):
    def test_at_each_place(self):
        for number in range(60):
            house = made_house(number)
            for task, _, steps in house[0]:
                for at in range(len(steps) + 1):
                    for many in (0, 1, 3):
                        other = with_gives(house, task, at, many)
                        self.assertTrue(is_house(other))
                        self.assertEqual(script(other, task), steps[:at] + (("give",),) * many + steps[at:])
                        self.assertEqual([row for row in other[0] if row[0] != task], [row for row in house[0] if row[0] != task])
                        self.assertEqual(other[1:], house[1:])

    def test_without(self):
        for number in range(200):
            house = with_made_gives(made_house(number), number)
            other = without_gives(listed(house))
            self.assertTrue(is_house(other))
            for task, _, steps in house[0]:
                spare = spare_of(steps)
                self.assertEqual(script(other, task), tuple(step for step, gone in zip(steps, spare) if not gone))
                self.assertNotIn(True, spare_of(script(other, task)))
            self.assertEqual(without_gives(other), other)

    def test_states_along_runs(self):
        kinds = set()
        for number in range(200):
            house = with_made_gives(made_house(number), number)
            spare = {task: spare_of(steps) for task, _, steps in house[0]}
            for state in states(house, made_run(house, number)):
                later = state_without_gives(house, state)
                self.assertEqual(later, counted_without(house, state, spare))
                if later != state:
                    kinds |= {entry[0] for row in later[1] for entry in row[6]}
                    kinds |= {word for row in later[1] for word, at in (("by", 3), ("held", 4)) if row[at]}
        self.assertEqual(kinds, {"put", "got", "heard", "late", "joined", "closed", "stopped", "by", "held"})

    def test_what_can_be_told(self):
        many = 0
        for number in range(150):
            house = with_made_gives(small_house(number), number)
            if sum(len(row[2]) for row in house[0]) <= 12:
                many += house != without_gives(house)
                ends = {state_without_gives(house, state) for state in ends_told(house)}
                self.assertEqual(sorted(ends), ends_told(without_gives(house)))
        self.assertGreater(many, 20)

    def test_in_one_step_with_the_turns(self):
        """Where no moment stands the turns without those of spare gives come to the STATE without them."""
        many = 0
        for number in range(250):
            house = made_house(number)
            if any(step[0] == "until" or step[0] in ("get", "hear", "join") and step[2] != () for row in house[0] for step in row[2]):
                continue
            many += 1
            house = with_made_gives(house, number)
            run, own = made_run(house, number), {task: 0 for task in task_names(house)}
            spare, turns = {task: spare_of(steps) for task, _, steps in house[0]}, []
            for state, task in zip(states(house, run), run):
                self.assertEqual(state_without_gives(house, state), after(without_gives(house), turns))
                if not spare[task][own[task]]:
                    turns.append(task)
                own[task] += 1
        self.assertGreater(many, 20)


def heed_of(house, one, other):
    """Whether the one heeds the other one, read off row by row."""
    return (bool(named(house, one, "put", "get") & named(house, other, "put", "get"))
            or bool(named(house, one, "set", "hear") & named(house, other, "set"))
            or other in named(house, one, "join") or one in named(house, other, "start", "cancel")
            or other in hosted_tasks(house, one) or other in group_mates(house, one) or one in hosted_tasks(house, other))


def heeders_of(house, task):
    lot = {task}
    for _ in task_names(house):
        lot |= {one for one in task_names(house) if any(one != other and heed_of(house, one, other) for other in lot)}
    return lot


class Heeding(unittest.TestCase):
    def test_who_heeds_whom(self):
        for number in range(200):
            house = made_house(number)
            for task in task_names(house):
                expected = tuple(other for other in task_names(house) if other != task and heed_of(house, task, other))
                self.assertEqual(heeds(house, task), expected)
                self.assertEqual(heeders(listed(house), task), tuple(sorted(heeders_of(house, task))))

    def test_each_word(self):
        rows = (([("put", "q")], [("get", "q", ())], True, True), ([("hear", "s", ())], [("set", "s")], True, False),
                ([("set", "s")], [("set", "s")], True, True), ([("hear", "s", ())], [("hear", "s", ())], False, False),
                ([("join", "b", ())], [], True, False), ([("start", "b")], [], False, True), ([("cancel", "b")], [], False, True),
                ([("put", "s")], [("set", "s")], False, False), ([("put", "q")], [("put", "q")], True, True))
        for one, other, here, there in rows:
            house = built({"a": one, "b": other})
            self.assertEqual(heeds(house, "a"), ("b",) if here else ())
            self.assertEqual(heeds(house, "b"), ("a",) if there else ())
        house = built({"a": [("start", "b"), ("start", "c"), ("close", "g")], "b in g": [], "c in g": [], "d": []}, {"g": "a"})
        self.assertEqual([heeds(house, task) for task in "abcd"], [("b", "c"), ("a", "c"), ("a", "b"), ()])

    def test_without(self):
        fit = unfit = 0
        for number in range(150):
            house = made_house(number)
            names = task_names(house)
            for some in [lot for many in range(len(names) + 1) for lot in combinations(names, many)]:
                others = [task for task in names if task not in some]
                if not others or any(heed_of(house, task, name) for task in others for name in some):
                    with self.assertRaises(Unfit):
                        without_tasks(house, some)
                    unfit += 1
                    continue
                other = without_tasks(house, list(some))
                fit += 0 < len(some)
                self.assertTrue(is_house(other))
                self.assertEqual(task_names(other), tuple(others))
                for task, group, steps in other[0]:
                    old = script(house, task)
                    self.assertEqual(steps, tuple(("give",) if step[0] in ("start", "cancel") and step[1] in some else step
                                                  for step in old))
                self.assertEqual(other[1], tuple(pair for pair in house[1] if pair[1] not in some))
                gone = {name for task in some for name in named(house, task, "put", "get")}
                self.assertEqual(other[2], tuple(pair for pair in house[2] if pair[0] not in gone))
                for state in states(house, made_run(house, number))[::2]:
                    less = state_without_tasks(house, some, state)
                    self.assertEqual(less, (state[0], tuple(row for row in state[1] if row[0] in others),
                                            tuple(row for row in state[2] if row[0] in queue_names(other)),
                                            tuple(row for row in state[3] if row[0] in signal_names(other))))
        self.assertGreater(min(fit, unfit), 50)

    def test_what_can_be_told(self):
        many = 0
        for number in range(120):
            house = small_house(number)
            for task in task_names(house):
                some = heeders(house, task)
                if len(some) < len(task_names(house)):
                    many += 1
                    ends = {state_without_tasks(house, some, state)[1:] for state in ends_told(house)}
                    self.assertEqual(ends, {state[1:] for state in ends_told(without_tasks(house, some))})
        self.assertGreater(many, 60)

    def test_a_room_that_steps_of_others_do_not_name(self):
        house = built({"a": [("put", "q"), ("start", "b")], "b": [("set", "s"), ("put", "r")]}, {}, {"q": 1, "r": 2, "z": 3})
        other = without_tasks(house, ("b",))
        self.assertEqual(other, built({"a": [("put", "q"), ("give",)]}, {}, {"q": 1, "z": 3}))
        self.assertEqual(state_without_tasks(house, ("b",), after(house, ("a",)))[1:], after(other, ("a",))[1:])
        self.assertEqual(without_tasks(house, ()), house)


class Errors(Refusing, unittest.TestCase):
    house = built({"a": [("put", "q"), ("give",)], "b": [("get", "q", ()), ("hear", "s", ())], "c": [("start", "d"), ("catch", "g")],
                   "d in g": []}, {"g": "c"}, {"q": 1})
    state = begin(house)

    def test_beside(self):
        def other(task, queue, signal, group):
            return built({task: [("put", queue), ("hear", signal, ()), ("close", group)]}, {group: task})
        for names, worth in ((("c", "q", "s", "g"), "c"), (("z", "q", "s", "g"), "q"), (("z", "z", "s", "g"), "s"),
                             (("z", "z", "z", "g"), "g")):
            self.refused(Known, worth, beside, self.house, other(*names))
            self.refused(Known, worth, beside, listed(other(*names)), self.house)
        self.refused(Known, "r", beside, built({"a": []}, {}, {"r": 1, "s": 2}), built({"b": [("get", "s", 2), ("put", "r")]}))
        self.assertTrue(is_house(beside(self.house, other("q", "s", "g", "a"))))
        self.assertTrue(is_house(beside(built({"a": [("fail", "w")]}), built({"b": [("fail", "w")]}))))

    def test_weavings(self):
        ann, bob = built({"a": [("give",)], "b": [("hear", "s", ())]}), built({"a": [("give",)], "z": [("hear", "t", ())]})
        self.refused(NoTask, "y", weavings, ann, bob, ("b", "y"), ("z", "x"))
        self.refused(NoTask, "x", weavings, ann, bob, ("b",), ("z", "x"))
        self.refused(NotReady, "b", weavings, ann, bob, ("a", "b"), ("z",))
        self.refused(NotReady, "z", weavings, ann, bob, (), ("z",))
        self.refused(NotWhole, None, weavings, ann, bob, (), ("a",))
        self.refused(NotWhole, None, weavings, ann, bob, ("a",), ())
        self.refused(Known, "a", weavings, ann, bob, ("a",), ("a",))

    def test_choices(self):
        for function in (beats, unwoven):
            self.refused(NoTask, "z", function, self.house, ("b", "z"))
            self.refused(NotReady, "b", function, self.house, ["b", "a"])

    def test_tasks(self):
        for function in (side_of, heeds, heeders):
            self.refused(NoTask, "z", function, self.house, "z")
        self.refused(NoTask, "z", with_gives, self.house, "z", 99, 1)
        for number in (-1, 3, 99):
            self.refused(NoStep, number, with_gives, self.house, "a", number, 1)
        for function, rest in ((without_tasks, ()), (state_without_tasks, (self.state,))):
            self.refused(NoTask, "y", function, self.house, ("b", "y", "z"), *rest)
            self.refused(Unfit, None, function, self.house, ["b"], *rest)
            self.refused(Unfit, None, function, self.house, ("a", "b", "c", "d"), *rest)

    def test_renamed(self):
        rows = (("task", NoTask, "b"), ("queue", NoQueue, "q"), ("signal", NoSignal, "s"), ("group", NoGroup, "g"))
        for kind, error, name in rows:
            for function, rest in ((renamed, ()), (renamed_state, (self.state,))):
                self.refused(error, "zed", function, self.house, kind, ((name, "new"), ("zed", "x"), ("yew", "y")), *rest)
                self.refused(error, "", function, self.house, kind, [["", name]], *rest)
        for function, rest in ((renamed, ()), (renamed_state, (self.state,))):
            self.refused(Known, "b", function, self.house, "task", (("a", "b"),), *rest)
            self.refused(Known, "x", function, self.house, "task", (("a", "x"), ("b", "x")), *rest)
            self.refused(Known, "d", function, self.house, "task", (("a", "b"), ("b", "d"), ("c", "d")), *rest)
            self.refused(NoTask, "zed", function, self.house, "task", (("a", "b"), ("zed", "b")), *rest)


class Small(unittest.TestCase):
    def test_sides_of_walked_houses_tell_alone(self):
        many = 0
        for house, _, wholes in walked()[:80]:
            if len(sides(house)) > 1:
                many += 1
                for play in wholes[::5]:
                    for lot, own in zip(sides(house), unwoven(house, tuple(play.turns))):
                        end = told(side_of(house, lot[0]), own)
                        self.assertEqual(end[1], tuple(row for row in play.state()[1] if row[0] in lot))
        self.assertGreater(many, 15)
